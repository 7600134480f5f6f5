/-
  Contracts over the translated program and the plain facts behind them, of the texts: Sx, Sk. Conditions: those that stand in each theorem.
-/
import Derived.Test.YtclpdjpaaagkdaaGreatDoorPmB
namespace Go.Proofs.YtclpdjpaaagkdaaGreatDoor
open Go.ChangeShapes Go.WideShapes Go.ChangeAt Go.RowKit Go.Sort
set_option linter.unusedVariables false

def Sw (W w : World) : List (Nat × TypeId × Array Value) → Prop
 | [] => Dn W w
 | x :: L => Blk w x.1 x.2.1 x.2.2 ∧ W.heap.size ≤ x.1 ∧ (∀ y ∈ L, y.1 ≠ x.1) ∧ Sw W w L
section
variable {W w w' : World} {L l r : List (Nat × TypeId × Array Value)} {b : Nat} {t : TypeId} {cs cs' : Array Value} {x y : Nat × TypeId × Array Value}
theorem Sw.D : ∀ {L : List (Nat × TypeId × Array Value)}, Sw W w L → Dn W w
 | [], h => h
 | _ :: _, h => Sw.D h.2.2.2
theorem Sw.dn (d : Dn w w') : ∀ {L : List (Nat × TypeId × Array Value)}, Sw W w L → Sw W w' L
 | [], h => Dn.trans h d
 | _ :: _, h => ⟨h.1.dn d, h.2.1, h.2.2.1, Sw.dn d h.2.2.2⟩
theorem Sw.mem : ∀ {L : List (Nat × TypeId × Array Value)}, Sw W w L → ∀ x ∈ L, Blk w x.1 x.2.1 x.2.2 ∧ W.heap.size ≤ x.1
 | [], _, x, hx => absurd hx (by simp)
 | _ :: _, h, x, hx => by
   rcases List.mem_cons.1 hx with rfl | hx
   · exact ⟨h.1, h.2.1⟩
   · exact Sw.mem h.2.2.2 x hx
theorem Sw.ne : ∀ {L : List (Nat × TypeId × Array Value)}, Sw W w L → ∀ (i j : Nat) {x y : Nat × TypeId × Array Value}, L[i]? = some x → L[j]? = some y → i ≠ j → x.1 ≠ y.1
 | [], _, i, _, _, _, hi, _, _ => by simp at hi
 | z :: L, h, 0, 0, _, _, _, _, hn => absurd rfl hn
 | z :: L, h, 0, j + 1, x, y, hi, hj, _ => by
   obtain rfl : z = x := by simpa using hi
   exact (h.2.2.1 y (List.mem_of_getElem? (by simpa using hj))).symm
 | z :: L, h, i + 1, 0, x, y, hi, hj, _ => by
   obtain rfl : z = y := by simpa using hj
   exact h.2.2.1 x (List.mem_of_getElem? (by simpa using hi))
 | z :: L, h, i + 1, j + 1, x, y, hi, hj, hn => Sw.ne h.2.2.2 i j (by simpa using hi) (by simpa using hj) (fun e => hn (by rw [e]))
theorem Sw.new (h : Sw W w L) (n : New w w' b t cs) : Sw W w' ((b, t, cs) :: L) :=
 ⟨n.blk, Nat.le_trans h.D.size n.lo, fun y hy => n.ne _ (h.mem y hy).1.lt, h.dn n.dn⟩
theorem Sw.old (e : Trn b w w') : ∀ {L : List (Nat × TypeId × Array Value)}, Sw W w L → W.heap.size ≤ b → (∀ y ∈ L, y.1 ≠ b) → Sw W w' L
 | [], h, hb, _ => Dn.trn h hb e
 | x :: L, h, hb, hn => ⟨h.1.trn e (hn x (List.mem_cons_self ..)), h.2.1, h.2.2.1, Sw.old e h.2.2.2 hb fun y hy => hn y (List.mem_cons_of_mem _ hy)⟩
theorem Sw.put (g : Blk w' b t cs') (e : Trn b w w') : ∀ {l : List (Nat × TypeId × Array Value)}, Sw W w (l ++ (b, t, cs) :: r) → Sw W w' (l ++ (b, t, cs') :: r)
 | [], h => ⟨g, h.2.1, h.2.2.1, Sw.old e h.2.2.2 h.2.1 h.2.2.1⟩
 | x :: l, h => by
   have hb : W.heap.size ≤ b := (h.2.2.2.mem (b, t, cs) (by simp)).2
   refine ⟨h.1.trn e (fun k => h.2.2.1 (b, t, cs) (by simp) k.symm), h.2.1, ?_, Sw.put g e h.2.2.2⟩
   intro y hy
   rcases List.mem_append.1 hy with hy | hy
   · exact h.2.2.1 y (by simp [hy])
   · rcases List.mem_cons.1 hy with rfl | hy
     · exact h.2.2.1 (b, t, cs) (by simp)
     · exact h.2.2.1 y (by simp [hy])
theorem swD (S : Hid (Sw W w L)) : Dn W w := S.out.D
theorem swdn (S : Hid (Sw W w L)) (d : Dn w w') : Hid (Sw W w' L) := Lib.hid (S.out.dn d)
theorem swb0 (S : Hid (Sw W w ((b, t, cs) :: L))) : Blk w b t cs := S.out.1
theorem swt0 (S : Hid (Sw W w ((b, t, cs) :: L))) (g : Blk w' b t cs') (e : Trn b w w') : Hid (Sw W w' ((b, t, cs') :: L)) := Lib.hid (Sw.put (l := []) g e S.out)
theorem swb1 {x0 : Nat × TypeId × Array Value} (S : Hid (Sw W w (x0 :: (b, t, cs) :: L))) : Blk w b t cs := S.out.2.2.2.1
theorem swt1 {x0 : Nat × TypeId × Array Value} (S : Hid (Sw W w (x0 :: (b, t, cs) :: L))) (g : Blk w' b t cs') (e : Trn b w w') : Hid (Sw W w' (x0 :: (b, t, cs') :: L)) := Lib.hid (Sw.put (l := [x0]) g e S.out)
theorem swb2 {x0 x1 : Nat × TypeId × Array Value} (S : Hid (Sw W w (x0 :: x1 :: (b, t, cs) :: L))) : Blk w b t cs := S.out.2.2.2.2.2.2.1
theorem swt2 {x0 x1 : Nat × TypeId × Array Value} (S : Hid (Sw W w (x0 :: x1 :: (b, t, cs) :: L))) (g : Blk w' b t cs') (e : Trn b w w') : Hid (Sw W w' (x0 :: x1 :: (b, t, cs') :: L)) := Lib.hid (Sw.put (l := [x0, x1]) g e S.out)
theorem swb3 {x0 x1 x2 : Nat × TypeId × Array Value} (S : Hid (Sw W w (x0 :: x1 :: x2 :: (b, t, cs) :: L))) : Blk w b t cs := S.out.2.2.2.2.2.2.2.2.2.1
theorem swt3 {x0 x1 x2 : Nat × TypeId × Array Value} (S : Hid (Sw W w (x0 :: x1 :: x2 :: (b, t, cs) :: L))) (g : Blk w' b t cs') (e : Trn b w w') : Hid (Sw W w' (x0 :: x1 :: x2 :: (b, t, cs') :: L)) := Lib.hid (Sw.put (l := [x0, x1, x2]) g e S.out)
theorem swb4 {x0 x1 x2 x3 : Nat × TypeId × Array Value} (S : Hid (Sw W w (x0 :: x1 :: x2 :: x3 :: (b, t, cs) :: L))) : Blk w b t cs := S.out.2.2.2.2.2.2.2.2.2.2.2.2.1
theorem swt4 {x0 x1 x2 x3 : Nat × TypeId × Array Value} (S : Hid (Sw W w (x0 :: x1 :: x2 :: x3 :: (b, t, cs) :: L))) (g : Blk w' b t cs') (e : Trn b w w') : Hid (Sw W w' (x0 :: x1 :: x2 :: x3 :: (b, t, cs') :: L)) := Lib.hid (Sw.put (l := [x0, x1, x2, x3]) g e S.out)
theorem swb5 {x0 x1 x2 x3 x4 : Nat × TypeId × Array Value} (S : Hid (Sw W w (x0 :: x1 :: x2 :: x3 :: x4 :: (b, t, cs) :: L))) : Blk w b t cs := S.out.2.2.2.2.2.2.2.2.2.2.2.2.2.2.2.1
theorem swn0 {js bs : List Nat} (H : Hid (∀ (i : Nat) (x : Nat × TypeId × Array Value), ((b, t, cs) :: L : List (Nat × TypeId × Array Value))[i]? = some x → js.contains i = false → x.1 ∉ bs)) (hj : js.contains 0 = false) : b ∉ bs := H.out 0 _ rfl hj
theorem swy0 {js bs : List Nat} (H : Hid (∀ (i : Nat) (x : Nat × TypeId × Array Value), ((b, t, cs) :: L : List (Nat × TypeId × Array Value))[i]? = some x → js.contains i = true → x.1 ∈ bs)) (hj : js.contains 0 = true) : b ∈ bs := H.out 0 _ rfl hj
theorem swn1 {x0 : Nat × TypeId × Array Value} {js bs : List Nat} (H : Hid (∀ (i : Nat) (x : Nat × TypeId × Array Value), (x0 :: (b, t, cs) :: L : List (Nat × TypeId × Array Value))[i]? = some x → js.contains i = false → x.1 ∉ bs)) (hj : js.contains 1 = false) : b ∉ bs := H.out 1 _ rfl hj
theorem swy1 {x0 : Nat × TypeId × Array Value} {js bs : List Nat} (H : Hid (∀ (i : Nat) (x : Nat × TypeId × Array Value), (x0 :: (b, t, cs) :: L : List (Nat × TypeId × Array Value))[i]? = some x → js.contains i = true → x.1 ∈ bs)) (hj : js.contains 1 = true) : b ∈ bs := H.out 1 _ rfl hj
theorem swn2 {x0 x1 : Nat × TypeId × Array Value} {js bs : List Nat} (H : Hid (∀ (i : Nat) (x : Nat × TypeId × Array Value), (x0 :: x1 :: (b, t, cs) :: L : List (Nat × TypeId × Array Value))[i]? = some x → js.contains i = false → x.1 ∉ bs)) (hj : js.contains 2 = false) : b ∉ bs := H.out 2 _ rfl hj
theorem swy2 {x0 x1 : Nat × TypeId × Array Value} {js bs : List Nat} (H : Hid (∀ (i : Nat) (x : Nat × TypeId × Array Value), (x0 :: x1 :: (b, t, cs) :: L : List (Nat × TypeId × Array Value))[i]? = some x → js.contains i = true → x.1 ∈ bs)) (hj : js.contains 2 = true) : b ∈ bs := H.out 2 _ rfl hj
theorem swn3 {x0 x1 x2 : Nat × TypeId × Array Value} {js bs : List Nat} (H : Hid (∀ (i : Nat) (x : Nat × TypeId × Array Value), (x0 :: x1 :: x2 :: (b, t, cs) :: L : List (Nat × TypeId × Array Value))[i]? = some x → js.contains i = false → x.1 ∉ bs)) (hj : js.contains 3 = false) : b ∉ bs := H.out 3 _ rfl hj
theorem swy3 {x0 x1 x2 : Nat × TypeId × Array Value} {js bs : List Nat} (H : Hid (∀ (i : Nat) (x : Nat × TypeId × Array Value), (x0 :: x1 :: x2 :: (b, t, cs) :: L : List (Nat × TypeId × Array Value))[i]? = some x → js.contains i = true → x.1 ∈ bs)) (hj : js.contains 3 = true) : b ∈ bs := H.out 3 _ rfl hj
theorem swn4 {x0 x1 x2 x3 : Nat × TypeId × Array Value} {js bs : List Nat} (H : Hid (∀ (i : Nat) (x : Nat × TypeId × Array Value), (x0 :: x1 :: x2 :: x3 :: (b, t, cs) :: L : List (Nat × TypeId × Array Value))[i]? = some x → js.contains i = false → x.1 ∉ bs)) (hj : js.contains 4 = false) : b ∉ bs := H.out 4 _ rfl hj
theorem swy4 {x0 x1 x2 x3 : Nat × TypeId × Array Value} {js bs : List Nat} (H : Hid (∀ (i : Nat) (x : Nat × TypeId × Array Value), (x0 :: x1 :: x2 :: x3 :: (b, t, cs) :: L : List (Nat × TypeId × Array Value))[i]? = some x → js.contains i = true → x.1 ∈ bs)) (hj : js.contains 4 = true) : b ∈ bs := H.out 4 _ rfl hj
theorem swn5 {x0 x1 x2 x3 x4 : Nat × TypeId × Array Value} {js bs : List Nat} (H : Hid (∀ (i : Nat) (x : Nat × TypeId × Array Value), (x0 :: x1 :: x2 :: x3 :: x4 :: (b, t, cs) :: L : List (Nat × TypeId × Array Value))[i]? = some x → js.contains i = false → x.1 ∉ bs)) (hj : js.contains 5 = false) : b ∉ bs := H.out 5 _ rfl hj
theorem sjs (S : Hid (Sw W w L)) (js : List Nat) : ∃ bs : List Nat, Hid (∀ b ∈ bs, W.heap.size ≤ b) ∧ Hid (∀ (i : Nat) (x : Nat × TypeId × Array Value), L[i]? = some x → js.contains i = false → x.1 ∉ bs) ∧ Hid (∀ (i : Nat) (x : Nat × TypeId × Array Value), L[i]? = some x → js.contains i = true → x.1 ∈ bs) := by
 refine ⟨js.filterMap fun j => (L[j]?).map (·.1), Lib.hid ?_, Lib.hid ?_, Lib.hid ?_⟩
 · intro b hb
   obtain ⟨j, _, hj⟩ := List.mem_filterMap.1 hb
   obtain ⟨x, hx, rfl⟩ := Option.map_eq_some_iff.1 hj
   exact (S.out.mem x (List.mem_of_getElem? hx)).2
 · intro i x hi hn hb
   obtain ⟨j, hm, hj⟩ := List.mem_filterMap.1 hb
   obtain ⟨y, hy, e⟩ := Option.map_eq_some_iff.1 hj
   refine S.out.ne j i hy hi ?_ e
   rintro rfl
   simp [hm] at hn
 · intro i x hi hy
   exact List.mem_filterMap.2 ⟨i, by simpa using hy, by rw [hi]; rfl⟩
theorem Fb {p : Prop} (h : p := by first | exact swb0 S | exact swb1 S | exact swb2 S | exact swb3 S | exact swb4 S | exact swb5 S | exact swb6 S | exact swb7 S | exact swb8 S | exact swb9 S | exact swb10 S | exact swb11 S | exact swb12 S | exact swb13 S | exact Blk.dn (by assumption) (swD S)) : p := h
theorem nbo {bs : List Nat} (HB : Hid (∀ b ∈ bs, W.heap.size ≤ b)) (g : Blk W b t cs) : b ∉ bs := fun hm => absurd (HB.out b hm) (by have := g.lt; omega)
theorem Fo {p : Prop} (h : p := by first | exact swb0 S0 | exact swb1 S0 | exact swb2 S0 | exact swb3 S0 | exact swb4 S0 | exact swb5 S0 | exact swb6 S0 | exact swb7 S0 | exact swb8 S0 | exact swb9 S0 | exact swb10 S0 | exact swb11 S0 | exact swb12 S0 | exact swb13 S0 | exact Blk.dn (by assumption) (swD S0)) : p := h
theorem Nb {p : Prop} (h : p := by first | exact swn0 HN rfl | exact swn1 HN rfl | exact swn2 HN rfl | exact swn3 HN rfl | exact swn4 HN rfl | exact swn5 HN rfl | exact swn6 HN rfl | exact swn7 HN rfl | exact swn8 HN rfl | exact swn9 HN rfl | exact swn10 HN rfl | exact swn11 HN rfl | exact swn12 HN rfl | exact swn13 HN rfl | exact nbo HB (by assumption)) : p := h
theorem Yb {p : Prop} (h : p := by first | (refine .inr ?_; assumption) | exact .inl (swy0 HY rfl) | exact .inl (swy1 HY rfl) | exact .inl (swy2 HY rfl) | exact .inl (swy3 HY rfl) | exact .inl (swy4 HY rfl) | exact .inl (swy5 HY rfl) | exact .inl (swy6 HY rfl) | exact .inl (swy7 HY rfl) | exact .inl (swy8 HY rfl) | exact .inl (swy9 HY rfl) | exact .inl (swy10 HY rfl) | exact .inl (swy11 HY rfl) | exact .inl (swy12 HY rfl) | exact .inl (swy13 HY rfl)) : p := h
end
section
variable {P : Program} {ops : Array Oper} {rest : List Oper} {dst : Option Tmp} {x y : Operand} {ty : TypeId} {pos : String} {aft : Array Edge} {gd : Option (Nat × Bool)} {a : Act} {W w : World} {Q : Exit → Act → World → Prop} {t s : TypeId} {vs z cs : Array Value} {L : List (Nat × TypeId × Array Value)} {b : Nat} {v : Value} {f : FuncId} {args : Array Value} {R : Ending → World → Prop}
theorem sbox (S : Hid (Sw W w L)) (hw : Region.wanted ⟨dst, .box t y, ty, pos, aft, gd⟩ (yielded ops a.tmps) = true) (hy : a.eval y = .agg vs)
   (h : ∀ b w', Hid (Sw W w' ((b, t, vs) :: L)) → wpList P ops Q rest (a.put dst (.pointer (some ⟨b, 0, none⟩))) w') : wpList P ops Q (⟨dst, .box t y, ty, pos, aft, gd⟩ :: rest) a w :=
 wpList_box hw hy fun b w' n => h b w' (Lib.hid (S.out.new n))
theorem salloc (S : Hid (Sw W w L)) (hz : (P.info? t).map (fun i => (i.zero, i.size)) = some (some (.agg z), z.size)) (hw : Region.wanted ⟨dst, .alloc t, ty, pos, aft, gd⟩ (yielded ops a.tmps) = true)
   (h : ∀ b w', Hid (Sw W w' ((b, t, z) :: L)) → wpList P ops Q rest (a.put dst (.pointer (some ⟨b, 0, none⟩))) w') : wpList P ops Q (⟨dst, .alloc t, ty, pos, aft, gd⟩ :: rest) a w :=
 wpList_alloc hz hw fun b w' n => h b w' (Lib.hid (S.out.new n))
theorem scall (S : Hid (Sw W w L)) (C : Hid (∀ w, Dn W w → Calls P f args w fun e w' => e = .returned v ∧ Dn w w')) (h : ∀ w', Hid (Sw W w' L) → R (.returned v) w') : Calls P f args w R :=
 (C.out w S.out.D).mono fun e w' ⟨e1, d⟩ => e1 ▸ h w' (swdn S d)
def Rg (_js _is : List Nat) (_ks : List (List Nat)) : Prop := True
def Ks (_ks : List (List Nat)) : Prop := True
def fl : List (List Nat) → Nat
 | [] => 0
 | is :: r => fl r + is.length
theorem sreg {l : List Oper} {id : Nat} {js is : List Nat} {ks : List (List Nat)} (S : Hid (Sw W w L)) (R : Hid (Rg js is ks)) (hl : l.length = fl ks + is.length) (hm : P.follows .mixedOrders = true) (hs : Region.noSelect l.toArray = true)
   (hB : picksB .any l.toArray is (Array.replicate l.length false) = true)
   (h : ∀ bs : List Nat, Hid (∀ b ∈ bs, W.heap.size ≤ b) → Hid (∀ (i : Nat) (x : Nat × TypeId × Array Value), L[i]? = some x → js.contains i = false → x.1 ∉ bs) → Hid (∀ (i : Nat) (x : Nat × TypeId × Array Value), L[i]? = some x → js.contains i = true → x.1 ∈ bs) →
     ∃ A, wpCalx P l.toArray bs w A (pickL l is) a ∧ (Hid (Dx bs w w.drew) → Hid (Sw W w.drew L) → Hid (Ks ks) → wpX P .any l.toArray (NoPanic Q) bs w (fl ks) (picked is (Array.replicate l.length false)) A w.drew)) :
   (Code.region id l.toArray true).wp P Q a w := by
 obtain ⟨bs, HB, HN, HY⟩ := sjs S js
 obtain ⟨A, h1, h2⟩ := h bs HB HN HY
 exact wp_region_picks bs is (fl ks) hm hs hl hB ⟨A, h1, h2 (Lib.hid (Dn.dx (Dn.drawn _))) (swdn S (Dn.drawn _)) (Lib.hid trivial)⟩
theorem scalx {bs : List Nat} {c : Call} (HB : Hid (∀ b ∈ bs, W.heap.size ≤ b)) (S : Hid (Sw W w L)) (C : Hid (∀ w, Dn W w → Calls P f args w fun e w' => e = .returned v ∧ Dn w w')) (hw : Region.wanted ⟨dst, .call c, ty, pos, aft, gd⟩ (yielded ops a.tmps) = true)
   (he : ∀ u, (execOp a.eval ⟨dst, .call c, ty, pos, aft, gd⟩).run P u = .ok (.enter f args) u) : Calx P ops bs w ⟨dst, .call c, ty, pos, aft, gd⟩ v a :=
 calx_call (fun u du => C.out u (S.out.D.of_dx du HB.out)) hw he
theorem xend {md : Region.Mode} {bs : List Nat} {w0 : World} {listed : Array Bool} (K : Hid (Ks [])) (S : Hid (Sw W w L)) (hr : Region.ready md ops listed = []) (h : ∀ x, Hid (Sw W x L) → Q .normal a x) : wpX P md ops (NoPanic Q) bs w0 (fl []) listed a w :=
 wpX_end hr fun x d => NoPanic.normal (h x (swdn S d))
theorem xone {md : Region.Mode} {bs : List Nat} {w0 : World} {listed : Array Bool} {k : Nat} {ks : List (List Nat)} (K : Hid (Ks ([k] :: ks))) (hr : Region.ready md ops listed = [k]) (h : Hid (Ks ks) → wpX1 P md ops Q bs w0 k (fl ks) listed a w) : wpX P md ops Q bs w0 (fl ([k] :: ks)) listed a w :=
 wpX_one k hr (h (Lib.hid trivial))
theorem xpick {bs is : List Nat} {ks : List (List Nat)} {w0 : World} {l : List Oper} {listed : Array Bool} (K : Hid (Ks (is :: ks))) (E : Hid (Dx bs w0 w)) (hs : Region.noSelect l.toArray = true)
   (hB : picksB .any l.toArray is listed = true) (h : ∃ A, wpCalx P l.toArray bs w0 A (pickL l is) a ∧ (Hid (Ks ks) → wpX P .any l.toArray (NoPanic Q) bs w0 (fl ks) (picked is listed) A w)) : wpX P .any l.toArray (NoPanic Q) bs w0 (fl (is :: ks)) listed a w := by
 obtain ⟨A, h1, h2⟩ := h
 exact wpX_pick2 hs E.out is (fl ks) rfl hB ⟨A, h1, h2 (Lib.hid trivial)⟩
theorem xalloc {md : Region.Mode} {bs : List Nat} {w0 : World} {listed : Array Bool} {k fuel : Nat} {p : Tmp} (S : Hid (Sw W w L)) (E : Hid (Dx bs w0 w)) (hz : (P.info? t).map (fun i => (i.zero, i.size)) = some (some (.agg z), z.size)) (hk : ops[k]? = some ⟨some p, .alloc t, ty, pos, aft, none⟩)
   (h : ∀ b y, w0.heap.size ≤ b → Hid (Dx bs w0 y) → Hid (Sw W y ((b, t, z) :: L)) → wpX P md ops Q bs w0 fuel (listed.setIfInBounds k true) (a.put (some p) (.pointer (some ⟨b, 0, none⟩))) y) : wpX1 P md ops Q bs w0 k fuel listed a w :=
 x1_alloc hk hz E.out fun b y d lo g => h b y (Nat.le_trans E.out.size lo) (Lib.hid (E.out.trans (Dn.dx d))) (Lib.hid (S.out.new ⟨g, d, lo, fun i hi => Nat.ne_of_lt (Nat.lt_of_lt_of_le hi lo)⟩))
end

theorem lay_csr' {m : Mc} (hl : m.c.length = 29) (e : List Int) (he : e.length = 12) : lay (mach m) 17 (ints .u32 e) = mach { m with c := m.c.take 17 ++ e } := by
 apply Array.toList_inj.1
 have h1 : (m.c.map (Value.int .u32)).length = 29 := by rw [List.length_map, hl]
 simp only [lay, mach, ints, Array.toList_append, List.size_toArray, List.length_map, he]
 rw [List.take_append_of_le_length (by omega), List.drop_append]
 simp [List.map_take, h1]
theorem zeroI' : (Tryz.prog.info? 63).map (fun i => (i.zero, i.size)) = some (some (.agg (ins 0 0 0 0 0)), (ins 0 0 0 0 0).size) := by kernel_rfl
def Gets (s : TypeId) (cs : Array Value) (o : Nat) (v : Value) : Prop := ∀ (w : World) (b : Nat) (t : TypeId), Blk w b t cs → (loadVar s ⟨b, o, none⟩).run Tryz.prog w = .ok v w
structure Lays (s : TypeId) (cs : Array Value) (o : Nat) (v : Value) (cs' : Array Value) : Prop where
 info : (Tryz.prog.info? s).map (·.size) = some v.cells.size
 fits : o + v.cells.size ≤ cs.size
 one : v.cells.all (·.oneCell') = true
 lay : lay cs o v.cells = cs'
def wd (c : List Int) (i : Nat) : Int := c.getD i 0
section
variable {t s : TypeId} {cs vs cs' : Array Value} {o i n kc : Nat} {hh : Bool} {A' : Option Addr} {zs : List Int} {v v' : Value} {m m' : Mc} {c d e : List Int} {op rd ra rb imm u op' rd' ra' rb' imm' k k' j j' : Int} {ds : TypeDesc} {kk : IntKind}
theorem Gets.cut (hv : cs.extract o (o + n) = vs) (hs : vs.size = n) (hu : Tryz.prog.underlying s = some ds) (hd : ds.isRow = true) (hi : (Tryz.prog.info? s).map (·.size) = some n) : Gets s cs o (.agg vs) := fun w b t g => run_loadVar_cut g o n hv hs hu hd hi
theorem Gets.cell (hl : ∀ (u : World) (b i : Nat), u.cell? ⟨b, i, none⟩ = some v → (loadVar s ⟨b, i, none⟩).run Tryz.prog u = .ok v u) (hv : cs[o]? = some v) : Gets s cs o v := fun w b t g => hl w b o (g.cell hv)
theorem Lays.whole (hi : (Tryz.prog.info? s).map (·.size) = some vs.size) (hz : cs.size = vs.size) (h1 : vs.all (·.oneCell') = true) : Lays s cs 0 (.agg vs) vs := ⟨hi, by simp only [Value.cells]; omega, h1, lay_all cs vs hz⟩
theorem Lays.part (hi : (Tryz.prog.info? s).map (·.size) = some vs.size) (hz : o + vs.size ≤ cs.size) (h1 : vs.all (·.oneCell') = true) (hl : Go.Proofs.YtclpdjpaaagkdaaGreatDoor.lay cs o vs = cs') : Lays s cs o (.agg vs) cs' := ⟨hi, hz, h1, hl⟩
theorem Lays.cell (hv : v.cells = #[v]) (h1 : v.oneCell' = true) (hi : (Tryz.prog.info? s).map (·.size) = some 1) (hz : o < cs.size) (hl : cs.setIfInBounds o v = cs') : Lays s cs o v cs' :=
 ⟨by rw [hv]; exact hi, by rw [hv]; simp only [List.size_toArray, List.length_singleton]; omega, by rw [hv]; simp [h1], by rw [hv, lay_one _ _ _ hz]; exact hl⟩
theorem gM (h : m.c.length = 29) : Gets 30 (mach m) 0 (.agg (mach m)) := .cut (n := 33) (by rw [← mach_size h]; simp) (mach_size h) Tryz.underlying30 rfl info33
theorem gMC (h : m.c.length = 29) : Gets 26 (mach m) 0 (.agg (ints .u32 m.c)) := .cut (n := 29) (mach_core h) (by rw [ints_size, h]) Tryz.underlying26 rfl info29
theorem gMR (h : m.c.length = 29) : Gets 23 (mach m) 0 (.agg (ints .u32 (m.c.take 16))) := .cut (n := 16) (mach_regs h) (by rw [ints_size, List.length_take, h]; rfl) Tryz.underlying23 rfl info16
theorem gMD (h : m.c.length = 29) : Gets 24 (mach m) 17 (.agg (ints .u32 (m.c.drop 17))) := .cut (n := 12) (mach_csr h) (by rw [ints_size, List.length_drop, h]) Tryz.underlying24 rfl info12
theorem gP (h : m.c.length = 29) : Gets 30 (prg m op rd ra rb imm u k j) 0 (.agg (mach m)) := .cut (n := 33) (prg_mach h) (mach_size h) Tryz.underlying30 rfl info33
theorem gPC (h : m.c.length = 29) : Gets 26 (prg m op rd ra rb imm u k j) 0 (.agg (ints .u32 m.c)) := .cut (n := 29) (prg_core h) (by rw [ints_size, h]) Tryz.underlying26 rfl info29
theorem gI  : Gets 63 (ins op rd ra rb imm) 0 (.agg (ins op rd ra rb imm)) := .cut (n := 5) (by simp [ins]) rfl Tryz.underlying63 rfl infoI
theorem gT  : Gets 46 (#[.int .i64 k, .int .u32 j]) 0 (.agg (#[.int .i64 k, .int .u32 j])) := .cut (n := 2) (by simp) rfl Tryz.underlying46 rfl infoTrap
theorem gC (h : c.length = 29) : Gets 26 (ints .u32 c) 0 (.agg (ints .u32 c)) := .cut (n := 29) (by rw [part_ints, List.drop_zero, List.take_of_length_le (by omega)]) (by rw [ints_size, h]) Tryz.underlying26 rfl info29
theorem wd_row (h : i < c.length) : (ints .u32 c)[i]? = some (.int .u32 (wd c i)) := ints_get _ _ _ h
theorem mt1 (h : m.c.length = 29) : (mach m)[30]? = some (.int .u64 m.t) := mach_tail h (i := 1) (by decide)
theorem mt3 (h : m.c.length = 29) : (mach m)[32]? = some (.bool m.h) := mach_tail h (i := 3) (by decide)
theorem cI0 : (ins op rd ra rb imm)[0]? = some (.int .i64 op) := rfl
theorem cI1 : (ins op rd ra rb imm)[1]? = some (.int .i64 rd) := rfl
theorem cI2 : (ins op rd ra rb imm)[2]? = some (.int .i64 ra) := rfl
theorem cI3 : (ins op rd ra rb imm)[3]? = some (.int .i64 rb) := rfl
theorem cI4 : (ins op rd ra rb imm)[4]? = some (.int .i32 imm) := rfl
theorem cP0 (h : m.c.length = 29) : (prg m op rd ra rb imm u k j)[33]? = some (.int .i64 op) := prg_tail h (i := 0) (by decide)
theorem cP5 (h : m.c.length = 29) : (prg m op rd ra rb imm u k j)[38]? = some (.int .u32 u) := prg_tail h (i := 5) (by decide)
theorem cP6 (h : m.c.length = 29) : (prg m op rd ra rb imm u k j)[39]? = some (.int .u32 k) := prg_tail h (i := 6) (by decide)
theorem cP7 (h : m.c.length = 29) : (prg m op rd ra rb imm u k j)[40]? = some (.int .u32 j) := prg_tail h (i := 7) (by decide)
theorem cL1 : (#[v] : Array Value)[0]? = some v := rfl
theorem cL2 : (#[v, v'] : Array Value)[0]? = some v := rfl
theorem wd_machE {p : Int} (h : m.c.length = 29) (e : wd m.c i = p) (hi : i < 29) : (mach m)[i]? = some (.int .u32 p) := e ▸ mach_word h hi
theorem mt1E {p : Int} (h : m.c.length = 29) (e : m.t = p) : (mach m)[30]? = some (.int .u64 p) := e ▸ mt1 h
theorem mt3E {p : Bool} (h : m.c.length = 29) (e : m.h = p) : (mach m)[32]? = some (.bool p) := e ▸ mt3 h
theorem ll_int : ∀ (u : World) (b i : Nat), u.cell? ⟨b, i, none⟩ = some v → (loadVar 3 ⟨b, i, none⟩).run Tryz.prog u = .ok v u := fun u b i h => run_load1 Tryz.underlying3 u h
theorem ll_uint32 : ∀ (u : World) (b i : Nat), u.cell? ⟨b, i, none⟩ = some v → (loadVar 22 ⟨b, i, none⟩).run Tryz.prog u = .ok v u := fun u b i h => run_load1 Tryz.underlying22 u h
theorem ll_uint64 : ∀ (u : World) (b i : Nat), u.cell? ⟨b, i, none⟩ = some v → (loadVar 28 ⟨b, i, none⟩).run Tryz.prog u = .ok v u := fun u b i h => run_load1 Tryz.underlying28 u h
theorem ll_int32 : ∀ (u : World) (b i : Nat), u.cell? ⟨b, i, none⟩ = some v → (loadVar 21 ⟨b, i, none⟩).run Tryz.prog u = .ok v u := fun u b i h => run_load1 Tryz.underlying21 u h
theorem ll_bool : ∀ (u : World) (b i : Nat), u.cell? ⟨b, i, none⟩ = some v → (loadVar 4 ⟨b, i, none⟩).run Tryz.prog u = .ok v u := fun u b i h => run_loadB Tryz.underlying4 u h
theorem lM (h : m.c.length = 29) (h' : m'.c.length = 29) : Lays 30 (mach m) 0 (.agg (mach m')) (mach m') := Lays.whole (info_mach h') (by rw [mach_size h, mach_size h']) (mach_one _)
theorem lMC (h : m.c.length = 29) (h' : c.length = 29) : Lays 26 (mach m) 0 (.agg (ints .u32 c)) (mach { m with c := c }) := Lays.part (info_core c h') (by rw [ints_size, mach_size h, h']; omega) (ints_one _ _) (lay_core h c h')
theorem lMR (h : m.c.length = 29) (h' : e.length = 16) : Lays 23 (mach m) 0 (.agg (ints .u32 e)) (mach { m with c := e ++ m.c.drop 16 }) := Lays.part (info_16 e h') (by rw [ints_size, mach_size h, h']; omega) (ints_one _ _) (lay_regs h e h')
theorem lMD (h : m.c.length = 29) (h' : e.length = 12) : Lays 24 (mach m) 17 (.agg (ints .u32 e)) (mach { m with c := m.c.take 17 ++ e }) := Lays.part (by rw [ints_size, h']; exact info12) (by rw [ints_size, mach_size h, h']; omega) (ints_one _ _) (lay_csr' h e h')
theorem lT  : Lays 46 #[.int .i64 k', .int .u32 j'] 0 (.agg #[.int .i64 k, .int .u32 j]) #[.int .i64 k, .int .u32 j] := Lays.whole infoTrap rfl (by simp [Value.oneCell'])
theorem lI  : Lays 63 (ins op' rd' ra' rb' imm') 0 (.agg (ins op rd ra rb imm)) (ins op rd ra rb imm) := Lays.whole infoI rfl (by simp [ins, Value.oneCell'])
theorem lI0  : Lays 63 (ins op' rd' ra' rb' imm') 0 (.agg #[.int .i64 op, .int .i64 rd, .int .i64 ra, .int .i64 rb, .int .i32 imm]) (ins op rd ra rb imm) := lI
theorem lC (h : c.length = 29) (h' : d.length = 29) : Lays 26 (ints .u32 c) 0 (.agg (ints .u32 d)) (ints .u32 d) := Lays.whole (info_core d h') (by rw [ints_size, ints_size, h, h']) (ints_one _ _)
theorem lMw (h : m.c.length = 29) (h' : decide (i < 29) = true) : Lays 22 (mach m) i (.int .u32 u) (mach { m with c := m.c.set i u }) := Lays.cell rfl rfl infoW (by rw [mach_size h]; have := of_decide_eq_true h'; omega) (mach_set h (of_decide_eq_true h') _)
theorem lMt (h : m.c.length = 29) : Lays 28 (mach m) 30 (.int .u64 u) (mach { m with t := u }) := Lays.cell rfl rfl infoU64 (by rw [mach_size h]; omega) (mach_put h _ 1 (by decide))
theorem lMh (h : m.c.length = 29) : Lays 4 (mach m) 32 (.bool hh) (mach { m with h := hh }) := Lays.cell rfl rfl infoBool (by rw [mach_size h]; omega) (mach_put h _ 3 (by decide))
theorem lCw (h : c.length = 29) (h' : decide (i < 29) = true) : Lays 22 (ints .u32 c) i (.int .u32 u) (ints .u32 (c.set i u)) := Lays.cell rfl rfl infoW (by rw [ints_size, h]; exact of_decide_eq_true h') (ints_set _ _ _ _)
end
theorem Fv {p : Prop} (h : p := by first | (with_reducible exact wd_machE (by assumption) (by assumption) (by decide)) | (with_reducible exact mt1E (by assumption) (by assumption)) | (with_reducible exact mt3E (by assumption) (by assumption)) | (with_reducible exact wd_mach (by assumption) (by decide)) | (with_reducible exact mt0 (by assumption)) | (with_reducible exact mt1 (by assumption)) | (with_reducible exact mt2 (by assumption)) | (with_reducible exact mt3 (by assumption)) | (with_reducible exact cP0 (by assumption)) | (with_reducible exact cP1 (by assumption)) | (with_reducible exact cP2 (by assumption)) | (with_reducible exact cP3 (by assumption)) | (with_reducible exact cP4 (by assumption)) | (with_reducible exact cP5 (by assumption)) | (with_reducible exact cP6 (by assumption)) | (with_reducible exact cP7 (by assumption)) | (with_reducible exact wd_prg (by assumption) (by decide)) | (with_reducible exact wd_row (by simp only [*]; decide)) | (with_reducible exact cI0) | (with_reducible exact cI1) | (with_reducible exact cI2) | (with_reducible exact cI3) | (with_reducible exact cI4) | (with_reducible exact cL1) | (with_reducible exact cL2) | (with_reducible exact cL3) | rfl) : p := h
theorem Qg {p : Prop} (h : p := by first | ((with_reducible apply gM); (first | assumption | rfl | exact M.Core.len (by assumption))) | ((with_reducible apply gMC); (first | assumption | rfl | exact M.Core.len (by assumption))) | ((with_reducible apply gMR); (first | assumption | rfl | exact M.Core.len (by assumption))) | ((with_reducible apply gMD); (first | assumption | rfl | exact M.Core.len (by assumption))) | ((with_reducible apply gP); (first | assumption | rfl | exact M.Core.len (by assumption))) | ((with_reducible apply gPC); (first | assumption | rfl | exact M.Core.len (by assumption))) | ((with_reducible apply gI)) | ((with_reducible apply gT)) | ((with_reducible apply gC); (first | assumption | rfl | exact M.Core.len (by assumption))) | ((with_reducible apply gCR); (first | assumption | rfl | exact M.Core.len (by assumption))) | ((with_reducible apply gCD); (first | assumption | rfl | exact M.Core.len (by assumption))) | ((with_reducible apply gR); (first | assumption | rfl | exact M.Core.len (by assumption))) | ((with_reducible apply gD); (first | assumption | rfl | exact M.Core.len (by assumption))) | ((with_reducible apply Gets.cell ll_int); exact Fv) | ((with_reducible apply Gets.cell ll_uint32); exact Fv) | ((with_reducible apply Gets.cell ll_uint64); exact Fv) | ((with_reducible apply Gets.cell ll_uint8); exact Fv) | ((with_reducible apply Gets.cell ll_int32); exact Fv) | ((with_reducible apply Gets.cell ll_bool); exact Fv) | ((with_reducible apply Gets.cell ll_bytes); exact Fv)) : p := h
theorem Ql {p : Prop} (h : p := by first | ((with_reducible apply lM); (first | assumption | rfl | exact M.Core.len (by assumption)); (first | assumption | rfl | exact M.Core.len (by assumption))) | ((with_reducible apply lMC); (first | assumption | rfl | exact M.Core.len (by assumption)); (first | assumption | rfl | exact M.Core.len (by assumption))) | ((with_reducible apply lMR); (first | assumption | rfl | exact M.Core.len (by assumption)); (first | assumption | rfl | exact M.Core.len (by assumption))) | ((with_reducible apply lMD); (first | assumption | rfl | exact M.Core.len (by assumption)); (first | assumption | rfl | exact M.Core.len (by assumption))) | ((with_reducible apply lT)) | ((with_reducible apply lI)) | ((with_reducible apply lI0)) | ((with_reducible apply lC); (first | assumption | rfl | exact M.Core.len (by assumption)); (first | assumption | rfl | exact M.Core.len (by assumption))) | ((with_reducible apply lR); (first | assumption | rfl | exact M.Core.len (by assumption)); (first | assumption | rfl | exact M.Core.len (by assumption))) | ((with_reducible apply lCR); (first | assumption | rfl | exact M.Core.len (by assumption)); (first | assumption | rfl | exact M.Core.len (by assumption))) | ((with_reducible apply lMw); (first | assumption | rfl | exact M.Core.len (by assumption)); (first | assumption | rfl | exact M.Core.len (by assumption))) | ((with_reducible apply lMt); (first | assumption | rfl | exact M.Core.len (by assumption))) | ((with_reducible apply lMh); (first | assumption | rfl | exact M.Core.len (by assumption))) | ((with_reducible apply lMm); (first | assumption | rfl | exact M.Core.len (by assumption))) | ((with_reducible apply lMo); (first | assumption | rfl | exact M.Core.len (by assumption))) | ((with_reducible apply lCw); (first | assumption | rfl | exact M.Core.len (by assumption)); (first | assumption | rfl | exact M.Core.len (by assumption))) | ((with_reducible apply Lays.cell rfl rfl in_int); simp; simp) | ((with_reducible apply Lays.cell rfl rfl in_uint32); simp; simp) | ((with_reducible apply Lays.cell rfl rfl in_uint64); simp; simp) | ((with_reducible apply Lays.cell rfl rfl in_uint8); simp; simp) | ((with_reducible apply Lays.cell rfl rfl in_int32); simp; simp) | ((with_reducible apply Lays.cell rfl rfl in_bool); simp; simp) | ((with_reducible apply Lays.cell rfl rfl in_bytes); simp; simp)) : p := h
section
variable {ops : Array Oper} {rest : List Oper} {dst : Option Tmp} {x y : Operand} {ty : TypeId} {pos : String} {aft : Array Edge} {gd : Option (Nat × Bool)} {a : Act} {W w w0 : World} {Q : Exit → Act → World → Prop} {t s : TypeId} {cs cs' : Array Value} {L L' : List (Nat × TypeId × Array Value)} {b o : Nat} {v : Value} {bs : List Nat}
theorem sld (hw : Region.wanted ⟨dst, .load s x, ty, pos, aft, gd⟩ (yielded ops a.tmps) = true) (hx : a.eval x = .pointer (some ⟨b, o, none⟩)) (hb : Blk w b t cs) (hg : Gets s cs o v) (h : wpList Tryz.prog ops Q rest (a.put dst v) w) : wpList Tryz.prog ops Q (⟨dst, .load s x, ty, pos, aft, gd⟩ :: rest) a w := by
 unfold wpList
 rw [if_pos hw]
 refine .inl ?_
 unfold Oper.wp execOp
 simp only [hx, Instr.loadAt, Instr.sureAddr, Sem.run_bind, Sem.run_pure, Result.andThen_ok, hg w b t hb]
 exact h
theorem sst (hw : Region.wanted ⟨none, .store s x y, ty, pos, aft, gd⟩ (yielded ops a.tmps) = true) (hx : a.eval x = .pointer (some ⟨b, o, none⟩)) (hy : a.eval y = v) (hb : Blk w b t cs) (hq : Lays s cs o v cs')
   (h : ∀ w', Blk w' b t cs' → Trn b w w' → wpList Tryz.prog ops Q rest a w') : wpList Tryz.prog ops Q (⟨none, .store s x y, ty, pos, aft, gd⟩ :: rest) a w :=
 wpList_store_at o v hb hq.info hq.fits hq.one hw hx hy (by rw [hq.lay]; exact h)
theorem cxld (hw : Region.wanted ⟨dst, .load s x, ty, pos, aft, gd⟩ (yielded ops a.tmps) = true) (hx : a.eval x = .pointer (some ⟨b, o, none⟩)) (hb : Blk w b t cs) (hn : b ∉ bs) (hg : Gets s cs o v) : Calx Tryz.prog ops bs w ⟨dst, .load s x, ty, pos, aft, gd⟩ v a := by
 refine .inl ⟨hw, fun u du => ?_⟩
 unfold execOp
 simp only [hx, Instr.loadAt, Instr.sureAddr, Sem.run_bind, Sem.run_pure, Result.andThen_ok, hg u b t (hb.dx du hn)]
 exact ⟨rfl, rfl⟩
theorem xst {md : Region.Mode} {k fuel : Nat} {listed : Array Bool} (S : Hid (Sw W w L)) (E : Hid (Dx bs w0 w)) (hk : ops[k]? = some ⟨none, .store s x y, ty, pos, aft, none⟩) (hx : a.eval x = .pointer (some ⟨b, o, none⟩))
   (h : ∀ z, Hid (Dx bs w0 z) → Hid (Sw W z L') → wpX Tryz.prog md ops Q bs w0 fuel (listed.setIfInBounds k true) a z)
   (hy : a.eval y = v := by ((conv => { lhs; whnf }) <;> rfl)) (hb : Blk w b t cs := by exact Fb) (hq : Lays s cs o v cs' := by exact Ql) (hm : b ∈ bs ∨ w0.heap.size ≤ b := by exact Yb)
   (hS : ∀ u z, Dn w u → Trn b u z → Blk z b t cs' → Hid (Sw W z L') := by first | exact fun u z d t r => swt0 (swdn S d) r t | exact fun u z d t r => swt1 (swdn S d) r t | exact fun u z d t r => swt2 (swdn S d) r t | exact fun u z d t r => swt3 (swdn S d) r t | exact fun u z d t r => swt4 (swdn S d) r t | exact fun u z d t r => swt5 (swdn S d) r t | exact fun u z d t r => swt6 (swdn S d) r t | exact fun u z d t r => swt7 (swdn S d) r t | exact fun u z d t r => swt8 (swdn S d) r t | exact fun u z d t r => swt9 (swdn S d) r t | exact fun u z d t r => swt10 (swdn S d) r t | exact fun u z d t r => swt11 (swdn S d) r t | exact fun u z d t r => swt12 (swdn S d) r t | exact fun u z d t r => swt13 (swdn S d) r t) : wpX1 Tryz.prog md ops Q bs w0 k fuel listed a w := by
 intro u du
 unfold wpOp
 simp only [hk]
 rw [if_pos (by rfl)]
 refine .inl ?_
 have st := run_storeVar_at (P := Tryz.prog) (s := s) o v (hb.dn du) hq.info hq.fits hq.one
 unfold Oper.wp execOp
 simp only [hx, hy, Instr.storeAt, Instr.sureAddr, Sem.run_bind, Sem.run_pure, Result.andThen_ok, st]
 rw [hq.lay]
 have d2 : Dx bs w0 (u.setRow b cs') := by
   rcases hm with hm | hm
   · exact (E.out.trans (Dn.dx du)).trans ((Trn.setRow u b _).dx hm)
   · exact (E.out.trans (Dn.dx du)).trn_new (Trn.setRow u b _) hm
 exact ⟨d2, h _ (Lib.hid d2) (hS u _ du (Trn.setRow u b _) (setRow_heap u b _ _ t _ (hb.dn du)))⟩
end
theorem wr64 (x : Int) : IntKind.u64.wrap x = x % 18446744073709551616 := rfl
theorem wr32 (x : Int) : IntKind.u32.wrap x = x % 4294967296 := rfl
section
variable {fn : Func} {i o p : Tmp} {act : Act} {w : World} {b b' : Nat} {s s' t t' : TypeId} {cs cs' : Array Value} {v v' : Value} {Post : Ending → World → Prop}
theorem rt1 (h : fn.results = #[.cell p s]) (hp : act.tmps.getD p undef = .pointer (some ⟨b, 0, none⟩)) (g : Blk w b t cs) (hg : Gets s cs 0 v) (K : Post (.returned v) w) (hd : act.defers = []) : bodyPost Tryz.prog fn Post .ret act w := by
 have hp' : act.tmps[p]?.getD undef = .pointer (some ⟨b, 0, none⟩) := by simpa using hp
 refine bodyPost_ret ?_ hd K
 simp [results, h, hp', asAddr, hg w b t g]
theorem rt2 (h : fn.results = #[.cell o s', .cell p s]) (ho : act.tmps.getD o undef = .pointer (some ⟨b', 0, none⟩)) (hp : act.tmps.getD p undef = .pointer (some ⟨b, 0, none⟩)) (g' : Blk w b' t' cs') (hg' : Gets s' cs' 0 v') (g : Blk w b t cs) (hg : Gets s cs 0 v)
   (K : Post (.returned (.tuple #[v', v])) w) (hd : act.defers = []) : bodyPost Tryz.prog fn Post .ret act w := by
 have hp' : act.tmps[p]?.getD undef = .pointer (some ⟨b, 0, none⟩) := by simpa using hp
 have ho' : act.tmps[o]?.getD undef = .pointer (some ⟨b', 0, none⟩) := by simpa using ho
 refine bodyPost_ret ?_ hd K
 simp [results, h, hp', ho', asAddr, hg w b t g, hg' w b' t' g']
end
theorem Pk {p : Prop} (h : p := by simp only [pickL, List.drop_succ_cons, List.drop_zero, List.take_succ_cons, List.take_zero, List.cons_append, List.nil_append]; repeat (first | exact rfl | (refine ⟨_, cxld (by rfl) rfl Fo Nb Qg, ?_⟩; simp only [Act.put, tA, tS, tZ]) | ((refine ⟨_, scalx HB S0 D1 ?_ ?_, ?_⟩); rfl; (intro u; go_simp); simp only [Act.put, tA, tS, tZ]) | ((refine ⟨_, scalx HB S0 D2 ?_ ?_, ?_⟩); rfl; (intro u; go_simp); simp only [Act.put, tA, tS, tZ]) | ((refine ⟨_, scalx HB S0 D3 ?_ ?_, ?_⟩); rfl; (intro u; go_simp); simp only [Act.put, tA, tS, tZ]) | ((refine ⟨_, scalx HB S0 D4 ?_ ?_, ?_⟩); rfl; (intro u; go_simp); simp only [Act.put, tA, tS, tZ]) | ((refine ⟨_, scalx HB S0 D5 ?_ ?_, ?_⟩); rfl; (intro u; go_simp); simp only [Act.put, tA, tS, tZ]) | ((refine ⟨_, scalx HB S0 D6 ?_ ?_, ?_⟩); rfl; (intro u; go_simp); simp only [Act.put, tA, tS, tZ]) | ((refine ⟨_, scalx HB S0 D7 ?_ ?_, ?_⟩); rfl; (intro u; go_simp); simp only [Act.put, tA, tS, tZ]) | ((refine ⟨_, scalx HB S0 D8 ?_ ?_, ?_⟩); rfl; (intro u; go_simp); simp only [Act.put, tA, tS, tZ]) | ((refine ⟨_, scalx HB S0 D9 ?_ ?_, ?_⟩); rfl; (intro u; go_simp); simp only [Act.put, tA, tS, tZ]) | ((refine ⟨_, scalx HB S0 D10 ?_ ?_, ?_⟩); rfl; (intro u; go_simp); simp only [Act.put, tA, tS, tZ]) | ((refine ⟨_, scalx HB S0 D11 ?_ ?_, ?_⟩); rfl; (intro u; go_simp); simp only [Act.put, tA, tS, tZ]) | ((refine ⟨_, scalx HB S0 D12 ?_ ?_, ?_⟩); rfl; (intro u; go_simp); simp only [Act.put, tA, tS, tZ]) | (refine ⟨_, .inr ⟨by rfl, rfl⟩, ?_⟩; simp only [Act.put, tA, tS, tZ]) | ((refine ⟨?_, calx_pure ?_ ?_, ?_⟩); rotate_left 1; rfl; (intro u; go_simp; rfl); simp only [Act.put, tA, tS, tZ]))) : p := h
theorem Wr {p : Prop} (h : p := by go_wp2_with (first | ((with_reducible apply sbox S); rfl; rfl; clear S; intro b w S) | ((first | (with_reducible refine salloc S zeroMach ?_ ?_) | (with_reducible refine salloc S zeroTrap ?_ ?_) | (with_reducible refine salloc S zeroCore ?_ ?_) | (with_reducible refine salloc S zeroR ?_ ?_) | (with_reducible refine salloc S zeroI' ?_ ?_)); rfl; clear S; intro b w S) | ((with_reducible apply scall S); (with_reducible assumption); clear S; intro w S) | ((with_reducible apply sld); rfl; rfl; exact Fb; exact Qg) | ((with_reducible apply sst); rfl; rfl; ((conv => { lhs; whnf }) <;> rfl); exact Fb; exact Ql; intro w r t; (first | replace S := swt0 S r t | replace S := swt1 S r t | replace S := swt2 S r t | replace S := swt3 S r t | replace S := swt4 S r t | replace S := swt5 S r t | replace S := swt6 S r t | replace S := swt7 S r t | replace S := swt8 S r t | replace S := swt9 S r t | replace S := swt10 S r t | replace S := swt11 S r t | replace S := swt12 S r t | replace S := swt13 S r t); clear r t; (try simp only [wr64, wr32] at S); (try simp only [E1.out] at S); (try simp only [E2.out] at S); (try simp only [E3.out] at S); (try simp only [E4.out] at S); (try simp only [E5.out] at S); (try simp only [E6.out] at S)) | (have S0 := S; (first | ((refine sreg S R1 ?_ ?_ ?_ ?_ ?_); rfl; kernel_rfl; kernel_rfl; kernel_rfl; clear R1) | ((refine sreg S R2 ?_ ?_ ?_ ?_ ?_); rfl; kernel_rfl; kernel_rfl; kernel_rfl; clear R2) | ((refine sreg S R3 ?_ ?_ ?_ ?_ ?_); rfl; kernel_rfl; kernel_rfl; kernel_rfl; clear R3) | ((refine sreg S R4 ?_ ?_ ?_ ?_ ?_); rfl; kernel_rfl; kernel_rfl; kernel_rfl; clear R4)); (intro bs HB HN HY); (refine ⟨?_, ?_, ?_⟩); rotate_left 1; exact Pk; (intro E S K); (repeat (first | ((refine xone K ?_ ?_); kernel_rfl; (intro K); first | (refine xst S E rfl rfl ?_; intro w E S; (try simp only [wr64, wr32] at S); (try simp only [E1.out] at S); (try simp only [E2.out] at S); (try simp only [E3.out] at S); (try simp only [E4.out] at S); (try simp only [E5.out] at S); (try simp only [E6.out] at S)) | ((refine xalloc S E zeroMach rfl ?_); intro b w lo E S; simp only [Act.put, tA, tS, tZ]) | ((refine xalloc S E zeroTrap rfl ?_); intro b w lo E S; simp only [Act.put, tA, tS, tZ]) | ((refine xalloc S E zeroCore rfl ?_); intro b w lo E S; simp only [Act.put, tA, tS, tZ]) | ((refine xalloc S E zeroR rfl ?_); intro b w lo E S; simp only [Act.put, tA, tS, tZ]) | ((refine xalloc S E zeroI' rfl ?_); intro b w lo E S; simp only [Act.put, tA, tS, tZ]) | ((refine xbox S E rfl rfl ?_); intro b w lo E S; simp only [Act.put, tA, tS, tZ])) | ((refine xpick K E ?_ ?_ ?_); kernel_rfl; kernel_rfl; (refine ⟨?_, ?_, ?_⟩); rotate_left 1; exact Pk; (intro K)))); (refine xend K S ?_ ?_); kernel_rfl; (intro w S); clear S0 HB HN HY)); first | (go_ret; exact ⟨ret_int E0.out, swD S⟩) | (go_ret; exact ⟨ret_bool E0.out, swD S⟩) | ((with_reducible apply rt1); rfl; rfl; exact Fb; exact Qg; exact ⟨rfl, swD S⟩; rfl) | ((with_reducible apply rt2); rfl; rfl; rfl; exact Fb; exact Qg; exact Fb; exact Qg; exact ⟨rfl, swD S⟩; rfl) | ((with_reducible apply rtt); rfl; rfl; rfl; exact Fb; exact Qg; exact ⟨rfl, swD S⟩; rfl) | (go_ret; exact ⟨rfl, swD S⟩)) : p := h
end Go.Proofs.YtclpdjpaaagkdaaGreatDoor
