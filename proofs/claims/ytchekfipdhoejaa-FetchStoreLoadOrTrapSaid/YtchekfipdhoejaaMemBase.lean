/-
  A slice of bytes in memory (Bs), a row of bytes that a call has made (Row of Base, ownsRow of the library), and the walk's laws for make, a cut and append at byte slices: no statement of the program by itself.
-/
import Derived.Test.YtchekfipdhoejaaMemMath
import Derived.Laws.CopyOwn
import Derived.Deep.QuietTactic
import Derived.BigQuiet
namespace Go.Proofs.Ytchekfipdhoejaa
open Go.ChangeShapes Go.WideShapes Go.ChangeAt Go.RowKit Go.Sort
open Go.Proofs.Ytchekfipdhoejaa.M (By)
set_option linter.unusedVariables false

theorem add0 (b k : Nat) : (⟨b, 0, none⟩ : Addr).add k = ⟨b, k, none⟩ := by unfold Addr.add; split <;> simp_all
theorem block_add (a : Addr) (n : Nat) : (a.add n).block = a.block := by unfold Addr.add; split <;> rfl
theorem add_add (a : Addr) (n m : Nat) : (a.add n).add m = a.add (n + m) := by
  unfold Addr.add
  by_cases h1 : n = 0
  · subst h1; simp
  · by_cases h2 : m = 0
    · subst h2; simp [h1]
    · simp [h1, h2]; omega
theorem info8 : (Try.prog.info? 5).map (fun i => (i.zero, i.size, i.bytes)) = some (some (.int .u8 0), 1, 1) := by kernel_rfl
theorem size8 : (Try.prog.info? 5).map (·.size) = some 1 := by kernel_rfl

/-- a slice of bytes in memory: at address A, of capacity c -/
def Bs (w : World) (A : Option Addr) (c : Nat) (xs : List Int) : Prop :=
  xs.length ≤ c ∧ By xs ∧ (xs ≠ [] → ∃ ad, A = some ad ∧ ad.block < w.heap.size ∧ ∀ (j : Nat) x, xs[j]? = some x → w.cell? (ad.add j) = some (.int .u8 x))
theorem Bs.dn {w w' : World} {A : Option Addr} {c : Nat} {xs : List Int} (h : Bs w A c xs) (k : Dn w w') : Bs w' A c xs :=
  ⟨h.1, h.2.1, fun hx => by
    obtain ⟨ad, e, hb, hc⟩ := h.2.2 hx
    exact ⟨ad, e, Nat.lt_of_lt_of_le hb k.size, fun j x hj => k.keep (hc j x hj)⟩⟩
theorem Bs.cells {w : World} {A : Option Addr} {c : Nat} {xs : List Int} (h : Bs w A c xs) (hx : 0 < xs.length) : ∃ ad, A = some ad ∧ ad.block < w.heap.size ∧ ∀ (j : Nat), j < xs.length → w.cell? (ad.add j) = some (.int .u8 (xs.getD j 0)) := by
  obtain ⟨ad, e, hb, hc⟩ := h.2.2 (by intro e; rw [e] at hx; exact absurd hx (by simp))
  exact ⟨ad, e, hb, fun j hj => hc j _ (M.getD_at hj)⟩
theorem Bs.drop {w : World} {A A' : Option Addr} {c l : Nat} {xs : List Int} (h : Bs w A c xs) (hl : l ≤ xs.length) (hA : l < c → A' = A.map (·.add l)) : Bs w A' (c - l) (xs.drop l) := by
  have h0 := h.1
  refine ⟨by simp; omega, fun x hx => h.2.1 x (List.mem_of_mem_drop hx), fun hx => ?_⟩
  have h1 : l < xs.length := by
    rcases Nat.lt_or_ge l xs.length with h1 | h1
    · exact h1
    · exact absurd (List.drop_eq_nil_of_le h1) hx
  obtain ⟨ad, rfl, hb, hc⟩ := h.2.2 (by intro e; rw [e] at h1; exact absurd h1 (by simp))
  refine ⟨ad.add l, hA (by omega), by rw [block_add]; exact hb, fun j x hj => ?_⟩
  rw [add_add]
  rw [List.getElem?_drop] at hj
  exact hc _ _ hj
theorem Bs.take {w : World} {A A' : Option Addr} {c l : Nat} {xs : List Int} (h : Bs w A c xs) (hl : l ≤ xs.length) (hA : A' = A) : Bs w A' c (xs.take l) := by
  have h0 := h.1
  subst hA
  refine ⟨by simp; omega, fun x hx => h.2.1 x (List.mem_of_mem_take hx), fun hx => ?_⟩
  obtain ⟨ad, rfl, hb, hc⟩ := h.2.2 (by intro e; rw [e] at hx; exact hx (by simp))
  refine ⟨ad, rfl, hb, fun j x hj => ?_⟩
  rw [List.getElem?_take] at hj
  split at hj
  · exact hc _ _ hj
  · cases hj
theorem Bs.of_row {w : World} {g : Nat} {xs : List Int} (h : Row w g 5 .u8 xs) (hb : By xs) : Bs w (some ⟨g, 0, none⟩) xs.length xs :=
  ⟨Nat.le_refl _, hb, fun _ => ⟨_, rfl, h.lt, fun j x hj => by
    have hl := (List.getElem?_eq_some_iff.1 hj).1
    have := h.cell j hl
    rw [add0]
    rw [this]
    rw [M.getD_at hl] at hj
    cases hj
    rfl⟩⟩
/-- an own row of bytes -/
theorem Bs.of_own {w : World} {base : Nat} {v : Value} {n : Nat} {xs : List Int} (hn : n = xs.length) (hr : By xs) (h : w.ownsRow base 5 1 v n (xs.map (Value.int .u8))) : ∃ A c, v = .slice A xs.length c ∧ Bs w A c xs := by
  subst hn
  rcases h.2 with ⟨rfl, h0⟩ | ⟨g, cap, cur, rfl, hb, hg, hnc, hcm, hsz, htk⟩
  · have : xs = [] := List.length_eq_zero_iff.1 h0
    subst this
    exact ⟨none, 0, rfl, ⟨Nat.le_refl _, hr, fun hx => absurd rfl hx⟩⟩
  · refine ⟨_, cap, rfl, ⟨hnc, hr, fun _ => ⟨_, rfl, (Array.getElem?_eq_some_iff.1 hg).1, fun j x hj => ?_⟩⟩⟩
    have h1 : cur[j]? = some (.int .u8 x) := by
      have hlt := (List.getElem?_eq_some_iff.1 hj).1
      have h2 : (cur.toList.take (xs.length * 1))[j]? = some (.int .u8 x) := by rw [htk, List.getElem?_map, hj]; rfl
      rw [List.getElem?_take, if_pos (by omega), Array.getElem?_toList] at h2
      exact h2
    rw [add0]
    unfold World.cell?
    rw [hg]
    exact h1

theorem below_keep {B : Nat} {w0 w w' : World} {row : Option Nat} (h : Below B w0 w) (hg : w.grownBy w' row) (hs : B ≤ w.heap.size) (hB : ∀ r, row = some r → B ≤ r) : Below B w0 w' :=
  ⟨hg.os.trans h.os, hg.tape.trans h.tape, hg.output.trans h.output, Nat.le_trans h.size hg.size, fun i hi => (hg.block i (by omega) (fun e => by have := hB i e.symm; omega)).trans (h.block i hi)⟩

theorem made8 (n : Nat) : madeCells (Value.int .u8 0).cells (n * 1) = ints .u8 (List.replicate n 0) := by
  apply Array.toList_inj.1
  have : (Value.int .u8 0).cells = #[.int .u8 0] := rfl
  rw [this, toList_madeCells_one]
  simp [ints]

section
variable {ops : Array Oper} {rest : List Oper} {dst : Option Tmp} {x y : Operand} {ty : TypeId} {pos : String} {aft : Array Edge} {gd : Option (Nat × Bool)} {a : Act} {w : World} {Q : Exit → Act → World → Prop}

/-- make([]byte, n) -/
theorem wpList_make8 {n : Nat} (hn : n ≤ 100000) (hw : Region.wanted ⟨dst, .makeSlice 27 x y, ty, pos, aft, gd⟩ (yielded ops a.tmps) = true) (hx : a.eval x = .int .i64 (n : Int)) (hy : a.eval y = .int .i64 (n : Int))
    (h : wpList Try.prog ops Q rest (a.put dst (.slice (some ⟨w.heap.size, 0, none⟩) n n)) (w.alloc (.cells (ints .u8 (List.replicate n 0)) 5))) :
    wpList Try.prog ops Q (⟨dst, .makeSlice 27 x y, ty, pos, aft, gd⟩ :: rest) a w := by
  obtain ⟨i, hi, hz, hs, hb⟩ := info_parts info8
  have hr := run_make (P := Try.prog) w 27 5 i _ Try.underlying27 hi hz .i64 .i64 (n : Int) (n : Int) (by omega) (by omega) (by rw [hb]; omega) (by omega)
  rw [hs, Int.toNat_natCast, made8] at hr
  unfold wpList
  rw [if_pos hw]
  refine .inl ?_
  unfold Oper.wp execOp
  simp only [hx, hy, Sem.run_bind, Sem.run_pure, hr, Result.andThen_ok]
  exact h

/-- m[l:] -/
theorem wpList_from {A : Option Addr} {len c l : Nat} {k : IntKind} (hl : l ≤ len) (hc : len ≤ c) (hw : Region.wanted ⟨dst, .slice 27 x (some y) none none, ty, pos, aft, gd⟩ (yielded ops a.tmps) = true) (hx : a.eval x = .slice A len c) (hy : a.eval y = .int k (l : Int))
    (h : ∀ A', (l < c → A' = A.map (·.add l)) → wpList Try.prog ops Q rest (a.put dst (.slice A' (len - l) (c - l))) w) :
    wpList Try.prog ops Q (⟨dst, .slice 27 x (some y) none none, ty, pos, aft, gd⟩ :: rest) a w := by
  obtain ⟨i, hi, hz, hs, hb⟩ := info_parts info8
  have hu : Try.prog.underlying 27 = some (.slice (Try.prog.elem 27)) := by kernel_rfl
  have he : Try.prog.elem 27 = 5 := by kernel_rfl
  have hr := run_slice_l (P := Try.prog) w 27 A len c hu k (l : Int) (by omega) (by omega)
  have hz : (sizeOf (Try.prog.elem 27)).run Try.prog w = .ok 1 w := by rw [he]; simp [sizeOf, typeInfo, hi, hs]
  rw [hz, Result.andThen_ok, Int.toNat_natCast] at hr
  unfold wpList
  rw [if_pos hw]
  refine .inl ?_
  unfold Oper.wp execOp
  simp only [Option.map, hx, hy, Sem.run_bind, Sem.run_pure, run_sliceAt_slice _ _ _ _ _ _ hu, hr, Result.andThen_ok]
  unfold sliced
  exact h _ (fun hlt => by rw [if_neg (by omega), Nat.mul_one])

/-- m[:l] -/
theorem wpList_upto {A : Option Addr} {len c l : Nat} {k : IntKind} (hl : l ≤ len) (hc : len ≤ c) (hw : Region.wanted ⟨dst, .slice 27 x none (some y) none, ty, pos, aft, gd⟩ (yielded ops a.tmps) = true) (hx : a.eval x = .slice A len c) (hy : a.eval y = .int k (l : Int))
    (h : wpList Try.prog ops Q rest (a.put dst (.slice A l c)) w) :
    wpList Try.prog ops Q (⟨dst, .slice 27 x none (some y) none, ty, pos, aft, gd⟩ :: rest) a w := by
  obtain ⟨i, hi, hz, hs, hb⟩ := info_parts info8
  have hu : Try.prog.underlying 27 = some (.slice (Try.prog.elem 27)) := by kernel_rfl
  have he : Try.prog.elem 27 = 5 := by kernel_rfl
  have hr := run_slice_h (P := Try.prog) w 27 A len c hu k (l : Int) (by omega) (by omega)
  have hz : (sizeOf (Try.prog.elem 27)).run Try.prog w = .ok 1 w := by rw [he]; simp [sizeOf, typeInfo, hi, hs]
  rw [hz, Result.andThen_ok, Int.toNat_natCast] at hr
  have e0 : sliced A 0 l c 1 = .slice A l c := by
    unfold sliced
    cases A with
    | none => simp
    | some ad => simp [Addr.add]
  rw [e0] at hr
  unfold wpList
  rw [if_pos hw]
  refine .inl ?_
  unfold Oper.wp execOp
  simp only [Option.map, hx, hy, Sem.run_bind, Sem.run_pure, run_sliceAt_slice _ _ _ _ _ _ hu, hr, Result.andThen_ok]
  exact h

theorem splice_wr (xs bs : List Int) (a : Nat) : splice (xs.map (Value.int .u8)) a (bs.map (Value.int .u8)) = (M.wr xs a bs).map (Value.int .u8) := by
  simp [splice, M.wr]
theorem ones (xs : List Int) : ∀ v ∈ xs.map (Value.int .u8), v.oneCell' = true := fun u hu => by obtain ⟨x, _, rfl⟩ := List.mem_map.1 hu; rfl
theorem srcs {w : World} {A : Option Addr} {c : Nat} {xs : List Int} (h : Bs w A c xs) (h0 : 0 < xs.length) : ∃ ad, A = some ad ∧ ∀ j v, (xs.map (Value.int .u8))[j]? = some v → w.cell? (ad.add j) = some v := by
  obtain ⟨ad, e, _, hc⟩ := h.2.2 (by intro e; rw [e] at h0; simp at h0)
  refine ⟨ad, e, fun j v hj => ?_⟩
  rw [List.getElem?_map] at hj
  obtain ⟨x, hyj, rfl⟩ := Option.map_eq_some_iff.1 hj
  exact hc j x hyj

/-- copy(cut of a row, bs) -/
theorem wpList_copy8 {g off : Nat} {cur bs : List Int} {A dp : Option Addr} {dLen dCap c : Nat} {B : Nat} {w0 : World} (HR : Hid (Row w g 5 .u8 cur)) (HX : Hid (Bs w A c bs)) (HD : Hid (Below B w0 w)) (HB : Hid (B ≤ g)) (HF : Hid (off + bs.length ≤ cur.length)) (HL : Hid (bs.length ≤ dLen)) (HP : Hid (0 < bs.length → dp = some ⟨g, off, none⟩))
    (hx : a.eval x = .slice dp dLen dCap) (hy : a.eval y = .slice A bs.length c)
    (h : ∀ w', Hid (Row w' g 5 .u8 (M.wr cur off bs)) → Hid (Below B w0 w') → wpList Try.prog ops Q rest (a.put dst (.int .i64 (bs.length : Int))) w') :
    wpList Try.prog ops Q (⟨dst, .call { callee := .builtin .copy, args := #[x, y], argTypes := #[27, 27] }, ty, pos, aft, none⟩ :: rest) a w := by
  refine wpList_copy_splice rfl x y 27 27 rfl 5 Try.underlying27 size8 dp A dLen dCap bs.length c hx hy g off (cur.map (Value.int .u8)) 5 HR.out (bs.map (Value.int .u8)) (by rw [List.length_map]; exact (Nat.min_eq_left HL.out).symm)
    (fun h0 => ⟨HP.out (by simpa using h0), srcs HX.out (by simpa using h0)⟩) (by simpa using HF.out) (ones bs) B w0 HD.out HB.out ?_
  intro w' H1 B1
  rw [splice_wr] at H1
  have := h w' H1 (Lib.hid B1)
  simpa [goInt] using this

theorem run_append8 (w : World) (base : Nat) (ty : TypeId) (v : Value) (n : Nat) (xs : List Value) (hown : w.ownsRow base 5 1 v n xs) (A : Option Addr) (c : Nat) (ys : List Int) (hy : Bs w A c ys) (hn : n + ys.length ≤ 100000) (hb : base ≤ w.heap.size) :
    ∃ v' w', (Builtin.append_ #[27, 27] ty #[v, .slice A ys.length c]).run Try.prog w = .ok v' w' ∧ w'.ownsRow base 5 1 v' (n + ys.length) (xs ++ ys.map (Value.int .u8)) ∧ w.grownBy w' v.ownBlock := by
  obtain ⟨i, hi, hz, hs, hby⟩ := info_parts info8
  cases A with
  | none =>
    have h0 : ys = [] := by
      rcases Classical.em (ys = []) with h | h
      · exact h
      · obtain ⟨ad, e, _⟩ := hy.2.2 h; cases e
    subst h0
    refine ⟨v, w, ?_, by simpa using hown, ⟨rfl, rfl, rfl, Nat.le_refl _, fun _ _ _ => rfl⟩⟩
    rcases hown.2 with ⟨rfl, hn0⟩ | ⟨g, cap, cur, rfl, hbg, hg, hnc, hcm, hsz, htk⟩
    · simp [Builtin.append_, run_underlying Try.underlying27, sizeOf, typeInfo, hi, Builtin.lenOf, Builtin.firstCells]
    · simp [Builtin.append_, run_underlying Try.underlying27, sizeOf, typeInfo, hi, Builtin.lenOf, Builtin.firstCells, loadCells, storeCells, hnc]
  | some ad =>
    obtain ⟨v', w', h1, h2, h3, _⟩ := run_append_own (P := Try.prog) w base 27 ty 5 i _ 1 1 Try.underlying27 hi hz hs hby rfl (by decide) v n xs hown ad ys.length c (ys.map (Value.int .u8)) (by simp) (fun j u hj => by
        rw [List.getElem?_map] at hj
        obtain ⟨x, hyj, rfl⟩ := Option.map_eq_some_iff.1 hj
        obtain ⟨ad', e, _, hc⟩ := hy.2.2 (by intro e; rw [e] at hyj; cases hyj)
        cases e
        exact hc j x hyj) (fun u hu => by obtain ⟨x, _, rfl⟩ := List.mem_map.1 hu; rfl) (by unfold maxLen; omega) (by omega) hb
    exact ⟨v', w', h1, h2, h3⟩

/-- append(own, ys...) -/
theorem wpList_append8 {o : Oper} (hw : Region.wanted o (yielded ops a.tmps) = true) (s x : Operand)
    (ho : o.op = .call { callee := .builtin .append, args := #[s, x], argTypes := #[27, 27] })
    (base : Nat) (v : Value) (n : Nat) (xs : List Value) (hs : a.eval s = v) (hown : w.ownsRow base 5 1 v n xs) (A : Option Addr) (c : Nat) (ys : List Int) (hx : a.eval x = .slice A ys.length c) (hy : Bs w A c ys) (hn : n + ys.length ≤ 100000) (hb : base ≤ w.heap.size)
    (h : ∀ v' w', w'.ownsRow base 5 1 v' (n + ys.length) (xs ++ ys.map (Value.int .u8)) → w.grownBy w' v.ownBlock → wpList Try.prog ops Q rest (a.put o.dst v') w') : wpList Try.prog ops Q (o :: rest) a w := by
  obtain ⟨v', w', hr, h2, h3⟩ := run_append8 w base o.type v n xs hown A c ys hy hn hb
  unfold wpList
  rw [if_pos hw]
  refine .inl ?_
  unfold Oper.wp execOp
  simp only [ho, resolve, invoke, builtin, Sem.run_bind, Sem.run_pure, Result.andThen_ok, List.map_toArray, List.map_cons, List.map_nil, hs, hx, hr]
  exact h v' w' h2 h3
end
end Go.Proofs.Ytchekfipdhoejaa
