/-
  What wordOf and Disassemble of package asm return when called: contracts over the translated program. Conditions: the package variables hold what the program's text lays there; strings are not longer than a hundred thousand bytes.
-/
import Derived.Test.YtokhipjpppfkgaaGreatDoorAsmLine
namespace Go.Proofs.YtokhipjpppfkgaaGreatDoor
open Go.ChangeShapes Go.WideShapes Go.ChangeAt Go.RowKit Go.Sort
set_option linter.unusedVariables false

theorem ret_wb {a b : Int} {c : Bool} (h : a = b) : Ending.returned (.tuple #[.int .u32 a, .bool c]) = .returned (.tuple #[.int .u32 b, .bool c]) := by rw [h]

def wordM : List UInt8 := [119, 111, 114, 100, 32]

theorem fields_word (t : List UInt8) : ∃ r, M.fields (wordM ++ t) = [119, 111, 114, 100] :: r := by
  have hi : Lib.index (wordM ++ t) [32] = 4 := M.index_one_at 32 t [119, 111, 114, 100] (by decide)
  have hl : (wordM ++ t).length = 5 + t.length := by unfold wordM; simp; omega
  unfold M.fields Lib.splitN
  obtain ⟨k, hk⟩ : ∃ k, min 4 ((wordM ++ t).length + 1) - 1 = k + 1 := ⟨2, by omega⟩
  rw [hk, Lib.splitK, hi]
  exact ⟨_, rfl⟩

theorem text_no_word (op rd ra rb imm : Int) (h : M.ok op rd ra rb imm = true) : Lib.hasPrefix (M.text op rd ra rb imm) wordM = false := by
  cases hp : Lib.hasPrefix (M.text op rd ra rb imm) wordM
  · rfl
  · obtain ⟨t, ht⟩ := List.isPrefixOf_iff_prefix.1 hp
    obtain ⟨r, hr⟩ := fields_word t
    rw [ht, M.fields_text] at hr
    injection hr with h1 _
    obtain ⟨ho, _⟩ := M.ok_rng _ _ _ _ _ h
    have : ∀ n : Nat, n < 26 → M.mnems.getD n [] ≠ [119, 111, 114, 100] := by decide
    exact absurd h1 (this op.toNat (by omega))

theorem wordM_prefix (t : List UInt8) : Lib.hasPrefix (wordM ++ t) wordM = true := List.isPrefixOf_iff_prefix.2 (List.prefix_append _ _)
theorem wordM_trim (t : List UInt8) : Lib.trimPrefix (wordM ++ t) wordM = t := by
  unfold Lib.trimPrefix
  rw [if_pos (wordM_prefix t)]
  simp

set_option maxHeartbeats 1000000 in
theorem wordOf_dok (x : Int) (W : World) (E : Env W) (h0 : 0 ≤ x) (h1 : x < 4294967296) (hd : M.dok x = true) :
    Calls Tryz.prog 31 #[.string ⟨(M.lineT x).toArray⟩] W fun e W' => e = .returned (.tuple #[.int .u32 x, .bool true]) ∧ Dn W W' := by
  obtain ⟨hk, hw⟩ := dok_ok hd
  rw [lineT_yes hd]
  have hp := text_no_word _ _ _ _ _ hk
  have C := fun W => cutPrefix (M.text (M.dOp x) (M.dRd x) (M.dRa x) (M.dRb x) (M.dImm x)) wordM W
  simp only [hp] at C
  have HC := Lib.hid C
  have HW := Lib.hid hw
  clear C hw hp
  go_enter Tryz.func31, Tryz.ntmps31
  go_wp2_with fail
  refine (HC.out _).mono ?_
  rintro e w1 ⟨rfl, rfl⟩
  go_wp2_with fail
  refine (parse_yes _ _ _ _ _ _ E hk).mono ?_
  rintro e w2 ⟨rfl, dn2⟩
  go_wp2_with fail
  refine (encode_yes _ _ _ _ _ _ (E.dn (dn2.alloc _)).tabs hk).mono ?_
  rintro e w3 ⟨rfl, up3⟩
  go_wp2
  go_ret2
  exact ⟨ret_wb HW.out, (dn2.alloc _).trans up3.dn⟩

set_option maxHeartbeats 1000000 in
theorem wordOf_word (t : List UInt8) (x : Int) (b : Bool) (W : World) (E : Env W)
    (C : Calls Tryz.prog 55 #[.string ⟨t.toArray⟩] W fun e W' => e = .returned (.tuple #[.int .u32 x, .bool b]) ∧ Dn W W') :
    Calls Tryz.prog 31 #[.string ⟨(wordM ++ t).toArray⟩] W fun e W' => e = .returned (.tuple #[.int .u32 x, .bool b]) ∧ Dn W W' := by
  have C2 := cutPrefix (wordM ++ t) wordM W
  rw [wordM_prefix, wordM_trim] at C2
  have HC2 := Lib.hid C2
  have HC := Lib.hid C
  clear C C2
  generalize wordM ++ t = s at *
  go_enter Tryz.func31, Tryz.ntmps31
  go_wp2_with fail
  refine HC2.out.mono ?_
  rintro e w1 ⟨rfl, hw⟩
  subst hw
  go_wp2_with fail
  refine HC.out.mono ?_
  rintro e w2 ⟨rfl, dn2⟩
  go_wp2
  go_ret2
  exact ⟨rfl, dn2⟩

theorem wordOf_yes (x : Int) (W : World) (E : Env W) (h0 : 0 ≤ x) (h1 : x < 4294967296) :
    Calls Tryz.prog 31 #[.string ⟨(M.lineT x).toArray⟩] W fun e W' => e = .returned (.tuple #[.int .u32 x, .bool true]) ∧ Dn W W' := by
  cases hd : M.dok x
  · rw [lineT_no hd]
    exact wordOf_word _ x true W E (undecodable_yes x W E h0 h1 hd)
  · exact wordOf_dok x W E h0 h1 hd

/-- a line of a word -/
def IsLine (s : List UInt8) : Prop := ∃ x : Int, 0 ≤ x ∧ x < 4294967296 ∧ M.lineT x = s

set_option maxHeartbeats 1000000 in
theorem wordOf_no (s : List UInt8) (W : World) (E : Env W) (hs : s.length ≤ 100000) (h : ¬ IsLine s) :
    Calls Tryz.prog 31 #[.string ⟨s.toArray⟩] W fun e W' => e = .returned (.tuple #[.int .u32 0, .bool false]) ∧ Dn W W' := by
  cases hp : Lib.hasPrefix s wordM
  · have C2 := cutPrefix s wordM W
    rw [hp] at C2
    have HC2 := Lib.hid C2
    have C := parse_no s W E hs (fun op rd ra rb imm hk e => h ⟨M.word op rd ra rb imm, (M.word_rng _ _ _ _ _ hk).1, (M.word_rng _ _ _ _ _ hk).2, by
      have hd := M.word_dok _ _ _ _ _ hk
      obtain ⟨e1, e2, e3, e4, e5⟩ := M.word_fields _ _ _ _ _ hk
      rw [lineT_yes hd, e1, e2, e3, e4, e5]; exact e⟩)
    have HC := Lib.hid C
    clear C C2 hp h
    go_enter Tryz.func31, Tryz.ntmps31
    go_wp2_with fail
    refine HC2.out.mono ?_
    rintro e w1 ⟨rfl, hw⟩
    subst hw
    go_wp2_with fail
    refine HC.out.mono ?_
    rintro e w2 ⟨rfl, dn2⟩
    go_wp2
    go_ret2
    exact ⟨rfl, dn2.alloc _⟩
  · obtain ⟨t, ht⟩ := List.isPrefixOf_iff_prefix.1 hp
    subst ht
    refine wordOf_word t 0 false W E (undecodable_no t W E ?_ (fun x h0 h1 hd e => h ⟨x, h0, h1, ?_⟩))
    · rw [List.length_append] at hs; omega
    · rw [lineT_no hd, e]; rfl

theorem writeString (B b : Nat) (bs : List Value) (s : List UInt8) (w : World) (h : Lib.IsBuilder 66 5 B b bs w) (hlen : bs.length + s.length ≤ 140737488355328) (hBw : B ≤ w.heap.size) :
    Calls Tryz.prog 33 #[.pointer (some ⟨b, 0, none⟩), .string ⟨s.toArray⟩] w fun e w' => e = .returned (.tuple #[.int .i64 s.length, .nilIface]) ∧ Lib.IsBuilder 66 5 B b (bs ++ Lib.byteCells s) w' ∧ Below B w w' := by
  have hsz : (⟨s.toArray⟩ : ByteArray).size = s.length := by show s.toArray.size = _; simp
  have := Any.Builder_WriteString (P := Tryz.prog) (ρ := Tryz.lays156_ren) { Tryz.lays156 with } Tryz.Builder_Extra_156 B b bs ⟨s.toArray⟩ w h (by rw [hsz]; exact hlen) hBw
  rw [hsz] at this
  exact this.mono fun e w' ⟨he, hb, hd⟩ => ⟨he, .inr hb, hd⟩

theorem builder_dn {T e : TypeId} {B b : Nat} {bs : List Value} {w w' : World} (h : Lib.IsBuilder T e B b bs w) (k : Dn w w') : Lib.IsBuilder T e B b bs w' := by
  have hg : w.grownBy w' none := ⟨k.os, k.tape, k.output, k.size, fun i hi _ => k.block i hi⟩
  have go : ∀ p, Lib.BuilderAt T e B b p bs w → Lib.BuilderAt T e B b p bs w' := fun p hp => by
    have hlt := hp.lt
    obtain ⟨hB, v, hb, hown, hne⟩ := hp
    exact ⟨hB, v, (k.block b hlt).trans hb, hown.kept hg (by
      cases hv : v.ownBlock with
      | none => exact .inl rfl
      | some x => exact .inr (by simp)), hne⟩
  rcases h with h | h
  · exact .inl (go _ h)
  · exact .inr (go _ h)

/-- the text of a list of words -/
def M.disT (xs : List Int) : List UInt8 := (xs.map fun x => M.lineT x ++ [10]).flatten
theorem disT_snoc (xs : List Int) (x : Int) : M.disT (xs ++ [x]) = M.disT xs ++ (M.lineT x ++ [10]) := by unfold M.disT; simp
theorem disT_append (xs ys : List Int) : M.disT (xs ++ ys) = M.disT xs ++ M.disT ys := by unfold M.disT; simp
theorem disT_len (xs : List Int) (h : ∀ x ∈ xs, 0 ≤ x ∧ x < 4294967296) : (M.disT xs).length ≤ 93 * xs.length := by
  induction xs with
  | nil => simp [M.disT]
  | cons x r ih =>
    have h1 := ih (fun y hy => h y (List.mem_cons_of_mem _ hy))
    have h2 := lineT_len x (h x List.mem_cons_self).1 (h x List.mem_cons_self).2
    unfold M.disT at h1 ⊢
    simp only [List.map_cons, List.flatten_cons, List.length_append, List.length_cons, List.length_nil]
    omega

/-- a list of words in memory -/
def Words (w : World) (A : Option Addr) (xs : List Int) : Prop :=
  (∀ x ∈ xs, 0 ≤ x ∧ x < 4294967296) ∧ (xs ≠ [] → ∃ ad, A = some ad ∧ ad.block < w.heap.size ∧ ∀ (j : Nat) x, xs[j]? = some x → w.cell? (ad.add j) = some (.int .u32 x))

theorem block_add (a : Addr) (n : Nat) : (a.add n).block = a.block := by unfold Addr.add; split <;> rfl
theorem Words.dn {w w' : World} {A : Option Addr} {xs : List Int} (h : Words w A xs) (k : Dn w w') : Words w' A xs :=
  ⟨h.1, fun hx => by
    obtain ⟨ad, e, hb, hc⟩ := h.2 hx
    exact ⟨ad, e, Nat.lt_of_lt_of_le hb k.size, fun j x hj => k.keep (hc j x hj)⟩⟩

def DisRel (W : World) (b : Nat) (xs : List Int) (i : Value) (w : World) : Prop :=
  ∃ k : Nat, k ≤ xs.length ∧ i = .int .i64 k ∧ Lib.IsBuilder 66 5 W.heap.size b (Lib.byteCells (M.disT (xs.take k))) w ∧ Dn W w

set_option maxRecDepth 100000 in
set_option maxHeartbeats 1000000 in
theorem disassemble (A : Option Addr) (c : Nat) (xs : List Int) (W : World) (E : Env W) (hx : Words W A xs) (hn : xs.length ≤ 1000) :
    Calls Tryz.prog 15 #[.slice A xs.length c] W fun e W' => e = .returned (.string ⟨(M.disT xs).toArray⟩) ∧ Dn W W' := by
  have hb := Lib.fresh_isBuilder 66 5 W
  have hd := (Dn.refl W).alloc (.cells #[.pointer none, .slice none 0 0] 66)
  go_enter Tryz.func15, Tryz.ntmps15
  go_wp2
  generalize W.alloc (.cells #[.pointer none, .slice none 0 0] 66) = w0 at *
  obtain ⟨b, hbW⟩ : ∃ b, b = W.heap.size := ⟨_, rfl⟩
  have HBW := Lib.hid hbW
  rw [← hbW]
  have hb2 : Lib.IsBuilder 66 5 W.heap.size b [] w0 := by rw [hbW]; exact hb
  clear hb hbW
  go_loopw [8] (fun i w => DisRel W b xs i w) (fun i _ => xs.length - (intOf i).toNat)
  case atStart => exact ⟨0, Nat.zero_le _, rfl, hb2, hd⟩
  case round =>
    obtain ⟨k, hk, rfl, hbk, hdk⟩ := hrel
    have hlen := disT_len (xs.take k) (fun x hx' => hx.1 x (List.mem_of_mem_take hx'))
    rw [List.length_take] at hlen
    by_cases hlt : k < xs.length
    · obtain ⟨ad, rfl, hab, hcs⟩ := hx.2 (by intro e; rw [e] at hlt; exact absurd hlt (by simp))
      have hck := hdk.keep (hcs k xs[k] (List.getElem?_eq_getElem hlt))
      obtain ⟨x0, x1⟩ := hx.1 xs[k] (List.getElem_mem hlt)
      have hll := lineT_len xs[k] x0 x1
      have HS : Hid (Lib.byteCells (M.disT (xs.take k)) ++ Lib.byteCells (M.lineT xs[k]) ++ Lib.byteCells [10] = Lib.byteCells (M.disT (xs.take (k + 1)))) := Lib.hid (by
        rw [List.take_succ_eq_append_getElem hlt, disT_snoc, ← Lib.byteCells_append, ← Lib.byteCells_append, List.append_assoc])
      have hlt2 : (k : Int) < xs.length := by omega
      have hl1 : (Lib.byteCells (M.disT (xs.take k))).length ≤ 93 * k := by rw [Lib.byteCells_length]; omega
      have hl2 : (Lib.byteCells (M.lineT xs[k])).length ≤ 92 := by rw [Lib.byteCells_length]; omega
      generalize xs[k] = x at *
      have hsz := hdk.size
      clear hcs hlen
      go_wp2_with fail
      refine (lineOf x _ (E.dn hdk) x0 x1).mono ?_
      rintro e w1 ⟨rfl, dn1⟩
      go_wp2_with fail
      refine (writeString W.heap.size b _ (M.lineT x) _ (builder_dn hbk dn1) (by omega) (Nat.le_trans hsz dn1.size)).mono ?_
      rintro e w2 ⟨rfl, hb2, hB2⟩
      go_wp2_with fail
      refine (writeString W.heap.size b _ [10] _ hb2 (by rw [List.length_append]; simp; omega) (Nat.le_trans (Nat.le_trans hsz dn1.size) hB2.size)).mono ?_
      rintro e w3 ⟨rfl, hb3, hB3⟩
      rw [HS.out] at hb3
      have hd3 : Dn W w3 := Below.trans (Below.trans (Dn.trans hdk dn1) hB2) hB3
      go_wp2
      exact ⟨⟨k + 1, by omega, by go_num, hb3, hd3⟩, by simp [intOf]; omega⟩
    · have ek : xs.take k = xs := List.take_of_length_le (by omega)
      rw [ek] at hbk
      have hsz := hdk.size
      go_wp2_with (go_at_call 35; refine (Tryz.Builder_String_any W.heap.size b (M.disT xs) _ hbk hsz).mono ?_; rintro e w1 ⟨rfl, hB1⟩)
      go_ret
      exact ⟨rfl, Below.trans hdk hB1⟩

end Go.Proofs.YtokhipjpppfkgaaGreatDoor
