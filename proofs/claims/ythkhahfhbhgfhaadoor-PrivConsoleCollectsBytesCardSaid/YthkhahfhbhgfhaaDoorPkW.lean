/-
  Contracts over the translated program and the plain facts behind them, of the texts: PvLaw, PvAwake, PvFrame. Conditions: those that stand in each theorem.
-/
import Derived.LaidMore
import Derived.Stop.Joined
import Derived.Lay
import Derived.Lib.LaidU8
import Derived.Shelf.Vars
import Derived.Test.YthkhahfhbhgfhaaDoorPkV
import Derived.Test.YthkhahfhbhgfhaaDoorPkS
import Derived.Test.YthkhahfhbhgfhaaDoorPkA
import Derived.Test.YthkhahfhbhgfhaaDoorPkG
import Derived.Test.YthkhahfhbhgfhaaDoorPkT
namespace Go.Proofs.YthkhahfhbhgfhaaDoor
open Go.ChangeShapes Go.WideShapes Go.ChangeAt Go.RowKit Go.Sort
set_option linter.unusedVariables false

set_option maxRecDepth 100000 in
set_option maxHeartbeats 2000000 in
theorem rRightYes (op rd ra rb imm : Int) (W : World) (i0 : -2147483648 ≤ imm) (i1 : imm < 2147483648) (hv : Is.M.ok op rd ra rb imm = true) (hp : Is.M.priv op = true) :
    Calls Tryd.prog 18 #[.agg (ins op rd ra rb imm)] W fun e W' => e = .returned (.bool true) ∧ Dn W W' := by
  have C1 := Lib.hid (rMay op rd ra rb imm true i0 i1 hv)
  have C2 := Lib.hid (rPrivi op true hp)
  have HD := Lib.hid (Dn.refl W)
  go_enter Tryd.func18, Tryd.ntmps18
  go_wp2_with (first | ((with_reducible refine wpList_box (vs := (ins op rd ra rb imm)) ?_ ?_ ?_); rfl; rfl; intro b_v1 w' nn; refine Hid.out ?_))
  refine Lib.hid ?_
  have HL_v1 : Hid (W.heap.size ≤ b_v1) := Lib.hid (Blk.hi nn HD.out.size)
  have d' := nn.dn
  replace HD := Lib.hid (HD.out.trans d')
  have v1 := nn.blk
  clear d' nn
  go_wp2_with (first | ((with_reducible refine loadI v1 ?_ ?_ ?_); rfl; rfl) | (go_at_call 24; (with_reducible refine (C1.out _).mono ?_); rintro e w' ⟨rfl, d'⟩; refine Hid.out ?_))
  refine Lib.hid ?_
  replace v1 := v1.dn d'
  replace HD := Lib.hid (HD.out.trans d')
  clear d'
  have ck0 := v1.iop
  go_wp2_with (first | (go_at_call 25; (with_reducible refine (C2.out _).mono ?_); rintro e w' ⟨rfl, d'⟩; refine Hid.out ?_))
  refine Lib.hid ?_
  clear ck0
  replace v1 := v1.dn d'
  replace HD := Lib.hid (HD.out.trans d')
  clear d'
  go_wp2_with fail
  go_ret
  exact ⟨rfl, HD.out⟩
set_option maxRecDepth 100000 in
set_option maxHeartbeats 2000000 in
theorem rRightPlain (op rd ra rb imm : Int) (W : World) (i0 : -2147483648 ≤ imm) (i1 : imm < 2147483648) (hv : Is.M.ok op rd ra rb imm = true) (hp : Is.M.priv op = false) :
    Calls Tryd.prog 18 #[.agg (ins op rd ra rb imm)] W fun e W' => e = .returned (.bool false) ∧ Dn W W' := by
  have C1 := Lib.hid (rMay op rd ra rb imm true i0 i1 hv)
  have C2 := Lib.hid (rPrivi op false hp)
  have HD := Lib.hid (Dn.refl W)
  go_enter Tryd.func18, Tryd.ntmps18
  go_wp2_with (first | ((with_reducible refine wpList_box (vs := (ins op rd ra rb imm)) ?_ ?_ ?_); rfl; rfl; intro b_v1 w' nn; refine Hid.out ?_))
  refine Lib.hid ?_
  have HL_v1 : Hid (W.heap.size ≤ b_v1) := Lib.hid (Blk.hi nn HD.out.size)
  have d' := nn.dn
  replace HD := Lib.hid (HD.out.trans d')
  have v1 := nn.blk
  clear d' nn
  go_wp2_with (first | ((with_reducible refine loadI v1 ?_ ?_ ?_); rfl; rfl) | (go_at_call 24; (with_reducible refine (C1.out _).mono ?_); rintro e w' ⟨rfl, d'⟩; refine Hid.out ?_))
  refine Lib.hid ?_
  replace v1 := v1.dn d'
  replace HD := Lib.hid (HD.out.trans d')
  clear d'
  have ck0 := v1.iop
  go_wp2_with (first | (go_at_call 25; (with_reducible refine (C2.out _).mono ?_); rintro e w' ⟨rfl, d'⟩; refine Hid.out ?_))
  refine Lib.hid ?_
  clear ck0
  replace v1 := v1.dn d'
  replace HD := Lib.hid (HD.out.trans d')
  clear d'
  go_wp2_with fail
  go_ret
  exact ⟨rfl, HD.out⟩
set_option maxRecDepth 100000 in
set_option maxHeartbeats 2000000 in
theorem rRightNo (op rd ra rb imm : Int) (W : World) (i0 : -2147483648 ≤ imm) (i1 : imm < 2147483648) (hv : Is.M.ok op rd ra rb imm = false) :
    Calls Tryd.prog 18 #[.agg (ins op rd ra rb imm)] W fun e W' => e = .returned (.bool false) ∧ Dn W W' := by
  have C1 := Lib.hid (rMay op rd ra rb imm false i0 i1 hv)
  have HD := Lib.hid (Dn.refl W)
  go_enter Tryd.func18, Tryd.ntmps18
  go_wp2_with (first | ((with_reducible refine wpList_box (vs := (ins op rd ra rb imm)) ?_ ?_ ?_); rfl; rfl; intro b_v1 w' nn; refine Hid.out ?_))
  refine Lib.hid ?_
  have HL_v1 : Hid (W.heap.size ≤ b_v1) := Lib.hid (Blk.hi nn HD.out.size)
  have d' := nn.dn
  replace HD := Lib.hid (HD.out.trans d')
  have v1 := nn.blk
  clear d' nn
  go_wp2_with (first | ((with_reducible refine loadI v1 ?_ ?_ ?_); rfl; rfl) | (go_at_call 24; (with_reducible refine (C1.out _).mono ?_); rintro e w' ⟨rfl, d'⟩; refine Hid.out ?_))
  refine Lib.hid ?_
  replace v1 := v1.dn d'
  replace HD := Lib.hid (HD.out.trans d')
  clear d'
  go_wp2_with fail
  go_ret
  exact ⟨rfl, HD.out⟩
theorem rRight (op rd ra rb imm : Int) (b : Bool) (i0 : -2147483648 ≤ imm) (i1 : imm < 2147483648) (hb : (Is.M.ok op rd ra rb imm && Is.M.priv op) = b) (W : World) : Calls Tryd.prog 18 #[.agg (ins op rd ra rb imm)] W fun e W' => e = .returned (.bool b) ∧ Dn W W' := by
  subst hb
  cases hv : Is.M.ok op rd ra rb imm
  · exact rRightNo op rd ra rb imm W i0 i1 hv
  · cases hp : Is.M.priv op
    · exact rRightPlain op rd ra rb imm W i0 i1 hv hp
    · exact rRightYes op rd ra rb imm W i0 i1 hv hp
/-- the instruction reads the time -/
def M.reads (op imm : Int) : Bool := op == 21 && (imm == 7 || imm == 8)
set_option maxRecDepth 100000 in
set_option maxHeartbeats 2000000 in
theorem pvReads0 (op rd ra rb imm : Int) (W : World) (i0 : -2147483648 ≤ imm) (i1 : imm < 2147483648) (h1 : (op == 21) = false) :
    Calls Tryd.prog 16 #[.agg (ins op rd ra rb imm)] W fun e W' => e = .returned (.bool false) ∧ Dn W W' := by
  have HD := Lib.hid (Dn.refl W)
  go_enter Tryd.func16, Tryd.ntmps16
  go_wp2_with (first | ((with_reducible refine wpList_box (vs := (ins op rd ra rb imm)) ?_ ?_ ?_); rfl; rfl; intro b_v1 w' nn; refine Hid.out ?_))
  refine Lib.hid ?_
  have HL_v1 : Hid (W.heap.size ≤ b_v1) := Lib.hid (Blk.hi nn HD.out.size)
  have d' := nn.dn
  replace HD := Lib.hid (HD.out.trans d')
  have v1 := nn.blk
  clear d' nn
  have ck0 := v1.iop
  have ck1 := v1.iimm
  go_wp2_with fail
  go_ret
  exact ⟨rfl, HD.out⟩
set_option maxRecDepth 100000 in
set_option maxHeartbeats 2000000 in
theorem pvReads1 (op rd ra rb imm : Int) (W : World) (i0 : -2147483648 ≤ imm) (i1 : imm < 2147483648) (h1 : (op == 21) = true) (h2 : (imm == 7) = true) :
    Calls Tryd.prog 16 #[.agg (ins op rd ra rb imm)] W fun e W' => e = .returned (.bool true) ∧ Dn W W' := by
  have HD := Lib.hid (Dn.refl W)
  go_enter Tryd.func16, Tryd.ntmps16
  go_wp2_with (first | ((with_reducible refine wpList_box (vs := (ins op rd ra rb imm)) ?_ ?_ ?_); rfl; rfl; intro b_v1 w' nn; refine Hid.out ?_))
  refine Lib.hid ?_
  have HL_v1 : Hid (W.heap.size ≤ b_v1) := Lib.hid (Blk.hi nn HD.out.size)
  have d' := nn.dn
  replace HD := Lib.hid (HD.out.trans d')
  have v1 := nn.blk
  clear d' nn
  have ck0 := v1.iop
  have ck1 := v1.iimm
  go_wp2_with fail
  go_ret
  exact ⟨rfl, HD.out⟩
set_option maxRecDepth 100000 in
set_option maxHeartbeats 2000000 in
theorem pvReads2 (op rd ra rb imm : Int) (W : World) (i0 : -2147483648 ≤ imm) (i1 : imm < 2147483648) (h1 : (op == 21) = true) (h2 : (imm == 7) = false) (h3 : (imm == 8) = true) :
    Calls Tryd.prog 16 #[.agg (ins op rd ra rb imm)] W fun e W' => e = .returned (.bool true) ∧ Dn W W' := by
  have HD := Lib.hid (Dn.refl W)
  go_enter Tryd.func16, Tryd.ntmps16
  go_wp2_with (first | ((with_reducible refine wpList_box (vs := (ins op rd ra rb imm)) ?_ ?_ ?_); rfl; rfl; intro b_v1 w' nn; refine Hid.out ?_))
  refine Lib.hid ?_
  have HL_v1 : Hid (W.heap.size ≤ b_v1) := Lib.hid (Blk.hi nn HD.out.size)
  have d' := nn.dn
  replace HD := Lib.hid (HD.out.trans d')
  have v1 := nn.blk
  clear d' nn
  have ck0 := v1.iop
  have ck1 := v1.iimm
  go_wp2_with fail
  go_ret
  exact ⟨rfl, HD.out⟩
set_option maxRecDepth 100000 in
set_option maxHeartbeats 2000000 in
theorem pvReads3 (op rd ra rb imm : Int) (W : World) (i0 : -2147483648 ≤ imm) (i1 : imm < 2147483648) (h1 : (op == 21) = true) (h2 : (imm == 7) = false) (h3 : (imm == 8) = false) :
    Calls Tryd.prog 16 #[.agg (ins op rd ra rb imm)] W fun e W' => e = .returned (.bool false) ∧ Dn W W' := by
  have HD := Lib.hid (Dn.refl W)
  go_enter Tryd.func16, Tryd.ntmps16
  go_wp2_with (first | ((with_reducible refine wpList_box (vs := (ins op rd ra rb imm)) ?_ ?_ ?_); rfl; rfl; intro b_v1 w' nn; refine Hid.out ?_))
  refine Lib.hid ?_
  have HL_v1 : Hid (W.heap.size ≤ b_v1) := Lib.hid (Blk.hi nn HD.out.size)
  have d' := nn.dn
  replace HD := Lib.hid (HD.out.trans d')
  have v1 := nn.blk
  clear d' nn
  have ck0 := v1.iop
  have ck1 := v1.iimm
  go_wp2_with fail
  go_ret
  exact ⟨rfl, HD.out⟩
theorem pvReads (op rd ra rb imm : Int) (b : Bool) (i0 : -2147483648 ≤ imm) (i1 : imm < 2147483648) (hb : M.reads op imm = b) (W : World) : Calls Tryd.prog 16 #[.agg (ins op rd ra rb imm)] W fun e W' => e = .returned (.bool b) ∧ Dn W W' := by
  subst hb
  unfold M.reads
  cases h1 : (op == 21)
  · exact pvReads0 op rd ra rb imm W i0 i1 h1
  · cases h2 : (imm == 7)
    · cases h3 : (imm == 8)
      · exact pvReads3 op rd ra rb imm W i0 i1 h1 h2 h3
      · exact pvReads2 op rd ra rb imm W i0 i1 h1 h2 h3
    · exact pvReads1 op rd ra rb imm W i0 i1 h1 h2
set_option maxRecDepth 100000 in
set_option maxHeartbeats 2000000 in
theorem rReads0 (op rd ra rb imm : Int) (W : World) (i0 : -2147483648 ≤ imm) (i1 : imm < 2147483648) (h1 : (op == 21) = false) :
    Calls Tryd.prog 17 #[.agg (ins op rd ra rb imm)] W fun e W' => e = .returned (.bool false) ∧ Dn W W' := by
  have HD := Lib.hid (Dn.refl W)
  go_enter Tryd.func17, Tryd.ntmps17
  go_wp2_with (first | ((with_reducible refine wpList_box (vs := (ins op rd ra rb imm)) ?_ ?_ ?_); rfl; rfl; intro b_v1 w' nn; refine Hid.out ?_))
  refine Lib.hid ?_
  have HL_v1 : Hid (W.heap.size ≤ b_v1) := Lib.hid (Blk.hi nn HD.out.size)
  have d' := nn.dn
  replace HD := Lib.hid (HD.out.trans d')
  have v1 := nn.blk
  clear d' nn
  have ck0 := v1.iop
  have ck1 := v1.iimm
  go_wp2_with fail
  go_ret
  exact ⟨rfl, HD.out⟩
set_option maxRecDepth 100000 in
set_option maxHeartbeats 2000000 in
theorem rReads1 (op rd ra rb imm : Int) (W : World) (i0 : -2147483648 ≤ imm) (i1 : imm < 2147483648) (h1 : (op == 21) = true) (h2 : (imm == 7) = true) :
    Calls Tryd.prog 17 #[.agg (ins op rd ra rb imm)] W fun e W' => e = .returned (.bool true) ∧ Dn W W' := by
  have HD := Lib.hid (Dn.refl W)
  go_enter Tryd.func17, Tryd.ntmps17
  go_wp2_with (first | ((with_reducible refine wpList_box (vs := (ins op rd ra rb imm)) ?_ ?_ ?_); rfl; rfl; intro b_v1 w' nn; refine Hid.out ?_))
  refine Lib.hid ?_
  have HL_v1 : Hid (W.heap.size ≤ b_v1) := Lib.hid (Blk.hi nn HD.out.size)
  have d' := nn.dn
  replace HD := Lib.hid (HD.out.trans d')
  have v1 := nn.blk
  clear d' nn
  have ck0 := v1.iop
  have ck1 := v1.iimm
  go_wp2_with fail
  go_ret
  exact ⟨rfl, HD.out⟩
set_option maxRecDepth 100000 in
set_option maxHeartbeats 2000000 in
theorem rReads2 (op rd ra rb imm : Int) (W : World) (i0 : -2147483648 ≤ imm) (i1 : imm < 2147483648) (h1 : (op == 21) = true) (h2 : (imm == 7) = false) (h3 : (imm == 8) = true) :
    Calls Tryd.prog 17 #[.agg (ins op rd ra rb imm)] W fun e W' => e = .returned (.bool true) ∧ Dn W W' := by
  have HD := Lib.hid (Dn.refl W)
  go_enter Tryd.func17, Tryd.ntmps17
  go_wp2_with (first | ((with_reducible refine wpList_box (vs := (ins op rd ra rb imm)) ?_ ?_ ?_); rfl; rfl; intro b_v1 w' nn; refine Hid.out ?_))
  refine Lib.hid ?_
  have HL_v1 : Hid (W.heap.size ≤ b_v1) := Lib.hid (Blk.hi nn HD.out.size)
  have d' := nn.dn
  replace HD := Lib.hid (HD.out.trans d')
  have v1 := nn.blk
  clear d' nn
  have ck0 := v1.iop
  have ck1 := v1.iimm
  go_wp2_with fail
  go_ret
  exact ⟨rfl, HD.out⟩
set_option maxRecDepth 100000 in
set_option maxHeartbeats 2000000 in
theorem rReads3 (op rd ra rb imm : Int) (W : World) (i0 : -2147483648 ≤ imm) (i1 : imm < 2147483648) (h1 : (op == 21) = true) (h2 : (imm == 7) = false) (h3 : (imm == 8) = false) :
    Calls Tryd.prog 17 #[.agg (ins op rd ra rb imm)] W fun e W' => e = .returned (.bool false) ∧ Dn W W' := by
  have HD := Lib.hid (Dn.refl W)
  go_enter Tryd.func17, Tryd.ntmps17
  go_wp2_with (first | ((with_reducible refine wpList_box (vs := (ins op rd ra rb imm)) ?_ ?_ ?_); rfl; rfl; intro b_v1 w' nn; refine Hid.out ?_))
  refine Lib.hid ?_
  have HL_v1 : Hid (W.heap.size ≤ b_v1) := Lib.hid (Blk.hi nn HD.out.size)
  have d' := nn.dn
  replace HD := Lib.hid (HD.out.trans d')
  have v1 := nn.blk
  clear d' nn
  have ck0 := v1.iop
  have ck1 := v1.iimm
  go_wp2_with fail
  go_ret
  exact ⟨rfl, HD.out⟩
theorem rReads (op rd ra rb imm : Int) (b : Bool) (i0 : -2147483648 ≤ imm) (i1 : imm < 2147483648) (hb : M.reads op imm = b) (W : World) : Calls Tryd.prog 17 #[.agg (ins op rd ra rb imm)] W fun e W' => e = .returned (.bool b) ∧ Dn W W' := by
  subst hb
  unfold M.reads
  cases h1 : (op == 21)
  · exact rReads0 op rd ra rb imm W i0 i1 h1
  · cases h2 : (imm == 7)
    · cases h3 : (imm == 8)
      · exact rReads3 op rd ra rb imm W i0 i1 h1 h2 h3
      · exact rReads2 op rd ra rb imm W i0 i1 h1 h2 h3
    · exact rReads1 op rd ra rb imm W i0 i1 h1 h2
/-- Execute of an instruction whose result is known -/
theorem xRunP (m : Mc) (op rd ra rb imm : Int) (c ys : List Int) (h : Bool) (t : Int) (hc : m.c = c) (hy : m.ys = ys) (hh : m.h = h) (ht : m.t = t) (r : M.PRes) (hr : M.px c ys h t op rd ra imm = r) (hn : ys.length ≤ 100000) (i0 : -2147483648 ≤ imm) (i1 : imm < 2147483648) (hop : op = 21 ∨ op = 22 ∨ op = 23 ∨ op = 24 ∨ op = 25) (W : World) (hm : m.Ok W) (T : Cs.CsrTabs W) :
    Calls Tryd.prog 19 #[.agg (mach m), .agg #[.int .i64 op, .int .i64 rd, .int .i64 ra, .int .i64 rb, .int .i32 imm]] W fun e W' =>
      ∃ m1, e = .returned (.agg (mach m1)) ∧ Hid (m1.Ok W') ∧ Hid (Pd m r W.heap.size m1) ∧ Dn W W' := by
  subst hc hy hh ht hr
  exact xPv m op rd ra rb imm W hm T i0 i1 hn hop
theorem rsame_p {m m1 m2 : Mc} {r : M.PRes} {n1 n2 : Nat} (W : World) (o1 : m1.Ok W) (o2 : m2.Ok W) (f1 : Pd m r n1 m1) (f2 : Pd m r n2 m2) (hx : m.xs.length ≤ 100000) (hy : r.ys.length ≤ 100000) :
    Calls Tryd.prog 13 #[.agg (mach m1), .agg (mach m2)] W fun e W' => e = .returned (.bool true) ∧ Dn W W' :=
  rsame m1 m2 W o1 o2 (by rw [f1.xs]; exact hx) (by rw [f1.ys]; exact hy) (f1.c.trans f2.c.symm) (f1.xs.trans f2.xs.symm) (f1.t.trans f2.t.symm) (f1.ys.trans f2.ys.symm) (f1.h.trans f2.h.symm)
theorem M.px_op {op rd ra rb imm : Int} (hv : Is.M.ok op rd ra rb imm = true) (hp : Is.M.priv op = true) : op = 21 ∨ op = 22 ∨ op = 23 ∨ op = 24 ∨ op = 25 := by
  unfold Is.M.priv at hp
  simp at hp
  omega
theorem M.px_len (c ys : List Int) (h : Bool) (t op rd ra imm : Int) : (M.px c ys h t op rd ra imm).ys.length ≤ ys.length + 1 := by
  unfold M.px
  repeat' split
  all_goals simp
end Go.Proofs.YthkhahfhbhgfhaaDoor
namespace Go.Proofs.YthkhahfhbhgfhaaDoor
open Go.ChangeShapes Go.WideShapes Go.ChangeAt Go.RowKit Go.Sort
set_option linter.unusedVariables false

theorem Cs.core_lit {c : List Int} (h : (decide (c.length = 29) && c.all fun x => decide (0 ≤ x ∧ x < 4294967296)) = true) : M.Core c := by
  simp only [Bool.and_eq_true, decide_eq_true_eq, List.all_eq_true] at h
  exact M.core_of h.1 h.2
/-- the machine of awake -/
def awP (g : Nat) (c : List Int) : Mc := ⟨c, none, 0, [], 9, some ⟨g, 0, none⟩, 1, [1], false⟩
def pwC0 : List Int := [0, 0, 0, 0, 0, 0, 0, 0, 0, 0, 0, 0, 0, 0, 0, 0, 4, 0, 0, 0, 0, 0, 0, 0, 0, 0, 0, 0, 0]
def pwC : List Int := [0, 321, 0, 0, 0, 0, 0, 0, 0, 0, 0, 0, 0, 0, 0, 0, 4, 0, 0, 0, 0, 0, 0, 0, 0, 0, 0, 0, 0]
def pw_a : M.PRes := ⟨[0, 321, 0, 0, 0, 0, 0, 0, 0, 0, 0, 0, 0, 0, 0, 0, 8, 0, 0, 0, 0, 0, 0, 0, 0, 0, 0, 0, 0], [1, 65], false⟩
def pw_b : M.PRes := ⟨[0, 321, 0, 0, 0, 0, 0, 0, 0, 0, 0, 0, 0, 0, 0, 0, 8, 0, 0, 0, 0, 320, 0, 0, 0, 0, 0, 0, 0], [1], false⟩
def pw_c : M.PRes := ⟨[0, 321, 320, 0, 0, 0, 0, 0, 0, 0, 0, 0, 0, 0, 0, 0, 12, 0, 0, 0, 0, 320, 0, 0, 0, 0, 0, 0, 0], [1], false⟩
def pw_d : M.PRes := ⟨[0, 321, 9, 0, 0, 0, 0, 0, 0, 0, 0, 0, 0, 0, 0, 0, 8, 0, 0, 0, 0, 0, 0, 0, 0, 0, 0, 0, 0], [1], false⟩
def pw_e : M.PRes := ⟨[0, 321, 0, 0, 0, 0, 0, 0, 0, 0, 0, 0, 0, 0, 0, 0, 8, 0, 0, 0, 0, 0, 0, 0, 0, 0, 0, 0, 0], [1], true⟩
def pw_f : M.PRes := ⟨[0, 321, 0, 0, 0, 0, 0, 0, 0, 0, 0, 0, 0, 0, 0, 0, 0, 0, 0, 0, 0, 0, 0, 0, 0, 0, 0, 0, 0], [1], false⟩
theorem pw_a_is : M.px pwC [1] false 9 25 0 1 0 = pw_a := by kernel_rfl
theorem pw_b_is : M.px pwC [1] false 9 22 0 1 4 = pw_b := by kernel_rfl
theorem pw_c_is : M.px pw_b.c [1] false 9 21 2 0 4 = pw_c := by kernel_rfl
theorem pw_d_is : M.px pwC [1] false 9 21 2 0 7 = pw_d := by kernel_rfl
theorem pw_e_is : M.px pwC [1] false 9 24 0 0 0 = pw_e := by kernel_rfl
theorem pw_f_is : M.px pwC [1] false 9 23 0 0 0 = pw_f := by kernel_rfl
theorem awP_ok {w : World} {g : Nat} (hb : Bs w (some ⟨g, 0, none⟩) 1 [1]) : (awP g pwC).Ok w := ⟨Cs.core_lit (c := pwC) (by decide), bs_nil w, hb, (by decide : (0 : Int) ≤ 9), (by decide : (9 : Int) < 18446744073709551616)⟩
theorem lit2_bs (w : World) : Bs (w.alloc (.cells #[.int .u8 1, .int .u8 65] 5)) (some ⟨w.heap.size, 0, none⟩) 2 [1, 65] := by
  have h : Row (w.alloc (.cells (ints .u8 [1, 65]) 5)) w.heap.size 5 .u8 [1, 65] := Row.new w 5 .u8 [1, 65]
  exact Bs.of_row h (fun y hy => by simp at hy; omega)
set_option maxRecDepth 100000 in
set_option maxHeartbeats 2000000 in
theorem awakeP (W : World) (T : Cs.CsrTabs W) : Calls Tryd.prog 15 #[] W fun e W' => e = .returned (.bool true) ∧ Dn W W' := by
  have HD := Lib.hid (Dn.refl W)
  go_enter Tryd.func15, Tryd.ntmps15
  replace HD := Lib.hid ((Dn.refl W).alloc (.cells #[.int .u8 1] 5))
  have oz := Lib.hid (byte_bs W 1 (by decide) (by decide))
  go_wp2_with (first | ((with_reducible refine wpList_alloc zeroMach ?_ ?_); rfl; intro b_v1 w' nn; refine Hid.out ?_))
  refine Lib.hid ?_
  have HL_v1 : Hid (W.heap.size ≤ b_v1) := Lib.hid (Blk.hi nn HD.out.size)
  have d' := nn.dn
  replace oz := Lib.hid (oz.out.dn d')
  replace HD := Lib.hid (HD.out.trans d')
  have v1 := nn.blk
  clear d' nn
  go_wp2_with (first | ((with_reducible refine store33 (awP W.heap.size (zeros 29)) rfl v1 zlen ?_ ?_ ?_ ?_); rfl; rfl; rfl; intro w' r' t'; refine Hid.out ?_))
  refine Lib.hid ?_
  replace oz := Lib.hid (oz.out.trn v1 (NoU8.mach _) t')
  replace HD := Lib.hid (HD.out.trn HL_v1.out t')
  clear t' v1
  have v1 := r'
  clear r'
  go_wp2_with (first | ((with_reducible refine storeWord (i := 16) (u := 4) v1 rfl ?_ ?_ ?_ ?_ ?_); rfl; rfl; rfl; rfl; intro w' r' t'; refine Hid.out ?_))
  refine Lib.hid ?_
  replace oz := Lib.hid (oz.out.trn v1 (NoU8.mach _) t')
  replace r' : Blk w' b_v1 30 (mach (awP W.heap.size pwC0)) := r'
  replace HD := Lib.hid (HD.out.trn HL_v1.out t')
  clear t' v1
  have v1 := r'
  clear r'
  go_wp2_with (first | ((with_reducible refine storeWord (i := 1) (u := 321) v1 rfl ?_ ?_ ?_ ?_ ?_); rfl; rfl; rfl; rfl; intro w' r' t'; refine Hid.out ?_))
  refine Lib.hid ?_
  replace oz := Lib.hid (oz.out.trn v1 (NoU8.mach _) t')
  replace r' : Blk w' b_v1 30 (mach (awP W.heap.size pwC)) := r'
  replace HD := Lib.hid (HD.out.trn HL_v1.out t')
  clear t' v1
  have v1 := r'
  clear r'
  have Ca := Lib.hid fun (w : World) (hb : Bs w (some ⟨W.heap.size, 0, none⟩) 1 [1]) => xRunP (awP W.heap.size pwC) 25 0 1 0 0 pwC [1] false 9 rfl rfl rfl rfl pw_a pw_a_is (by decide) (by decide) (by decide) (by decide) w (awP_ok hb)
  have Cb := Lib.hid fun (w : World) (hb : Bs w (some ⟨W.heap.size, 0, none⟩) 1 [1]) => xRunP (awP W.heap.size pwC) 22 0 1 0 4 pwC [1] false 9 rfl rfl rfl rfl pw_b pw_b_is (by decide) (by decide) (by decide) (by decide) w (awP_ok hb)
  have Cc := Lib.hid fun (w : World) (mb : Mc) (n : Nat) (e : Pd (awP W.heap.size pwC) pw_b n mb) => xRunP mb 21 2 0 0 4 pw_b.c [1] false 9 e.c e.ys e.h e.t pw_c pw_c_is (by decide) (by decide) (by decide) (by decide) w
  have Cd := Lib.hid fun (w : World) (hb : Bs w (some ⟨W.heap.size, 0, none⟩) 1 [1]) => xRunP (awP W.heap.size pwC) 21 2 0 0 7 pwC [1] false 9 rfl rfl rfl rfl pw_d pw_d_is (by decide) (by decide) (by decide) (by decide) w (awP_ok hb)
  have Ce := Lib.hid fun (w : World) (hb : Bs w (some ⟨W.heap.size, 0, none⟩) 1 [1]) => xRunP (awP W.heap.size pwC) 24 0 0 0 0 pwC [1] false 9 rfl rfl rfl rfl pw_e pw_e_is (by decide) (by decide) (by decide) (by decide) w (awP_ok hb)
  have Cf := Lib.hid fun (w : World) (hb : Bs w (some ⟨W.heap.size, 0, none⟩) 1 [1]) => xRunP (awP W.heap.size pwC) 23 0 0 0 0 pwC [1] false 9 rfl rfl rfl rfl pw_f pw_f_is (by decide) (by decide) (by decide) (by decide) w (awP_ok hb)
  have CS := Lib.hid fun (w : World) (ma : Mc) (n : Nat) (oa : ma.Ok w) (ea : Pd (awP W.heap.size pwC) pw_a n ma) => (same_yes ma.B (some ⟨w.heap.size, 0, none⟩) ma.q 2 ma.ys.length 2 ma.ys [1, 65] (w.alloc (.cells #[.int .u8 1, .int .u8 65] 5)) (oa.out.dn ((Dn.refl w).alloc _)) (lit2_bs w) rfl rfl ea.ys (by rw [ea.ys]; decide)).mono (fun e W' h => (⟨h.1, ((Dn.refl w).alloc _).trans h.2⟩ : e = .returned (.bool true) ∧ Dn w W'))
  have CR1 := Lib.hid fun w => (by exact pvReads 21 0 0 0 8 true (by decide) (by decide) rfl w : Calls Tryd.prog 16 #[.agg #[.int .i64 21, .int .i64 0, .int .i64 0, .int .i64 0, .int .i32 8]] w fun e W' => e = .returned (.bool true) ∧ Dn w W')
  have CR2 := Lib.hid fun w => (by exact pvReads 22 0 0 0 7 false (by decide) (by decide) rfl w : Calls Tryd.prog 16 #[.agg #[.int .i64 22, .int .i64 0, .int .i64 0, .int .i64 0, .int .i32 7]] w fun e W' => e = .returned (.bool false) ∧ Dn w W')
  go_wp2_with (first | ((with_reducible refine load33 v1 rfl ?_ ?_ ?_); rfl; rfl) | (go_at_call 19; (with_reducible refine (Ca.out _ oz.out (T.dn HD.out)).mono ?_); rintro e w' ⟨ma, rfl, oa, ea, d'⟩; refine Hid.out ?_))
  refine Lib.hid ?_
  replace v1 := v1.dn d'
  replace oz := Lib.hid (oz.out.dn d')
  replace HD := Lib.hid (HD.out.trans d')
  clear d'
  have la := oa.out.len
  have na16 : ma.c.getD 16 0 = 8 := by rw [ea.out.c]; rfl
  clear Ca
  have oa := Lib.hid oa.out
  go_wp2_with (first | ((with_reducible refine wpList_alloc zeroMach ?_ ?_); rfl; intro b_v2 w' nn; refine Hid.out ?_))
  refine Lib.hid ?_
  have n_v1_v2 := Lib.hid (nn.ne _ v1.lt)
  have HL_v2 : Hid (W.heap.size ≤ b_v2) := Lib.hid (Blk.hi nn HD.out.size)
  have d' := nn.dn
  replace v1 := v1.dn d'
  replace oa := Lib.hid (oa.out.dn d')
  replace oz := Lib.hid (oz.out.dn d')
  replace HD := Lib.hid (HD.out.trans d')
  have v2 := nn.blk
  clear d' nn
  go_wp2_with (first | ((with_reducible refine store33 ma la v2 zlen ?_ ?_ ?_ ?_); rfl; rfl; rfl; intro w' r' t'; refine Hid.out ?_))
  refine Lib.hid ?_
  replace oa := Lib.hid (oa.out.trn v2 (NoU8.mach _) t')
  replace oz := Lib.hid (oz.out.trn v2 (NoU8.mach _) t')
  replace v1 := v1.trn t' n_v1_v2.out
  replace HD := Lib.hid (HD.out.trn HL_v2.out t')
  clear t' v2
  have v2 := r'
  clear r'
  go_wp2_with (first | ((with_reducible refine load33 v1 rfl ?_ ?_ ?_); rfl; rfl) | (go_at_call 19; (with_reducible refine (Cb.out _ oz.out (T.dn HD.out)).mono ?_); rintro e w' ⟨mb, rfl, ob, eb, d'⟩; refine Hid.out ?_))
  refine Lib.hid ?_
  replace v1 := v1.dn d'
  replace v2 := v2.dn d'
  replace oa := Lib.hid (oa.out.dn d')
  replace oz := Lib.hid (oz.out.dn d')
  replace HD := Lib.hid (HD.out.trans d')
  clear d'
  have lb := ob.out.len
  have nb21 : mb.c.getD 21 0 = 320 := by rw [eb.out.c]; rfl
  clear Cb
  have ob := Lib.hid ob.out
  go_wp2_with (first | ((with_reducible refine wpList_alloc zeroMach ?_ ?_); rfl; intro b_v3 w' nn; refine Hid.out ?_))
  refine Lib.hid ?_
  have n_v1_v3 := Lib.hid (nn.ne _ v1.lt)
  have n_v2_v3 := Lib.hid (nn.ne _ v2.lt)
  have HL_v3 : Hid (W.heap.size ≤ b_v3) := Lib.hid (Blk.hi nn HD.out.size)
  have d' := nn.dn
  replace v1 := v1.dn d'
  replace v2 := v2.dn d'
  replace oa := Lib.hid (oa.out.dn d')
  replace ob := Lib.hid (ob.out.dn d')
  replace oz := Lib.hid (oz.out.dn d')
  replace HD := Lib.hid (HD.out.trans d')
  have v3 := nn.blk
  clear d' nn
  go_wp2_with (first | ((with_reducible refine store33 mb lb v3 zlen ?_ ?_ ?_ ?_); rfl; rfl; rfl; intro w' r' t'; refine Hid.out ?_))
  refine Lib.hid ?_
  replace oa := Lib.hid (oa.out.trn v3 (NoU8.mach _) t')
  replace ob := Lib.hid (ob.out.trn v3 (NoU8.mach _) t')
  replace oz := Lib.hid (oz.out.trn v3 (NoU8.mach _) t')
  replace v1 := v1.trn t' n_v1_v3.out
  replace v2 := v2.trn t' n_v2_v3.out
  replace HD := Lib.hid (HD.out.trn HL_v3.out t')
  clear t' v3
  have v3 := r'
  clear r'
  go_wp2_with (first | ((with_reducible refine load33 v3 lb ?_ ?_ ?_); rfl; rfl) | (go_at_call 19; (with_reducible refine (Cc.out _ mb _ eb.out ob.out (T.dn HD.out)).mono ?_); rintro e w' ⟨mc, rfl, oc, ec, d'⟩; refine Hid.out ?_))
  refine Lib.hid ?_
  replace v1 := v1.dn d'
  replace v2 := v2.dn d'
  replace v3 := v3.dn d'
  replace oa := Lib.hid (oa.out.dn d')
  replace ob := Lib.hid (ob.out.dn d')
  replace oz := Lib.hid (oz.out.dn d')
  replace HD := Lib.hid (HD.out.trans d')
  clear d'
  have lc := oc.out.len
  have nc2 : mc.c.getD 2 0 = 320 := by rw [ec.out.c]; rfl
  have nc16 : mc.c.getD 16 0 = 12 := by rw [ec.out.c]; rfl
  clear Cc oc ec
  go_wp2_with (first | ((with_reducible refine wpList_alloc zeroMach ?_ ?_); rfl; intro b_v4 w' nn; refine Hid.out ?_))
  refine Lib.hid ?_
  have n_v1_v4 := Lib.hid (nn.ne _ v1.lt)
  have n_v2_v4 := Lib.hid (nn.ne _ v2.lt)
  have n_v3_v4 := Lib.hid (nn.ne _ v3.lt)
  have HL_v4 : Hid (W.heap.size ≤ b_v4) := Lib.hid (Blk.hi nn HD.out.size)
  have d' := nn.dn
  replace v1 := v1.dn d'
  replace v2 := v2.dn d'
  replace v3 := v3.dn d'
  replace oa := Lib.hid (oa.out.dn d')
  replace ob := Lib.hid (ob.out.dn d')
  replace oz := Lib.hid (oz.out.dn d')
  replace HD := Lib.hid (HD.out.trans d')
  have v4 := nn.blk
  clear d' nn
  go_wp2_with (first | ((with_reducible refine store33 mc lc v4 zlen ?_ ?_ ?_ ?_); rfl; rfl; rfl; intro w' r' t'; refine Hid.out ?_))
  refine Lib.hid ?_
  replace oa := Lib.hid (oa.out.trn v4 (NoU8.mach _) t')
  replace ob := Lib.hid (ob.out.trn v4 (NoU8.mach _) t')
  replace oz := Lib.hid (oz.out.trn v4 (NoU8.mach _) t')
  replace v1 := v1.trn t' n_v1_v4.out
  replace v2 := v2.trn t' n_v2_v4.out
  replace v3 := v3.trn t' n_v3_v4.out
  replace HD := Lib.hid (HD.out.trn HL_v4.out t')
  clear t' v4
  have v4 := r'
  clear r'
  go_wp2_with (first | ((with_reducible refine load33 v1 rfl ?_ ?_ ?_); rfl; rfl) | (go_at_call 19; (with_reducible refine (Cd.out _ oz.out (T.dn HD.out)).mono ?_); rintro e w' ⟨md, rfl, od, ed, d'⟩; refine Hid.out ?_))
  refine Lib.hid ?_
  replace v1 := v1.dn d'
  replace v2 := v2.dn d'
  replace v3 := v3.dn d'
  replace v4 := v4.dn d'
  replace oa := Lib.hid (oa.out.dn d')
  replace ob := Lib.hid (ob.out.dn d')
  replace oz := Lib.hid (oz.out.dn d')
  replace HD := Lib.hid (HD.out.trans d')
  clear d'
  have ld := od.out.len
  have nd2 : md.c.getD 2 0 = 9 := by rw [ed.out.c]; rfl
  clear Cd od ed
  go_wp2_with (first | ((with_reducible refine wpList_alloc zeroMach ?_ ?_); rfl; intro b_v5 w' nn; refine Hid.out ?_))
  refine Lib.hid ?_
  have n_v1_v5 := Lib.hid (nn.ne _ v1.lt)
  have n_v2_v5 := Lib.hid (nn.ne _ v2.lt)
  have n_v3_v5 := Lib.hid (nn.ne _ v3.lt)
  have n_v4_v5 := Lib.hid (nn.ne _ v4.lt)
  have HL_v5 : Hid (W.heap.size ≤ b_v5) := Lib.hid (Blk.hi nn HD.out.size)
  have d' := nn.dn
  replace v1 := v1.dn d'
  replace v2 := v2.dn d'
  replace v3 := v3.dn d'
  replace v4 := v4.dn d'
  replace oa := Lib.hid (oa.out.dn d')
  replace ob := Lib.hid (ob.out.dn d')
  replace oz := Lib.hid (oz.out.dn d')
  replace HD := Lib.hid (HD.out.trans d')
  have v5 := nn.blk
  clear d' nn
  go_wp2_with (first | ((with_reducible refine store33 md ld v5 zlen ?_ ?_ ?_ ?_); rfl; rfl; rfl; intro w' r' t'; refine Hid.out ?_))
  refine Lib.hid ?_
  replace oa := Lib.hid (oa.out.trn v5 (NoU8.mach _) t')
  replace ob := Lib.hid (ob.out.trn v5 (NoU8.mach _) t')
  replace oz := Lib.hid (oz.out.trn v5 (NoU8.mach _) t')
  replace v1 := v1.trn t' n_v1_v5.out
  replace v2 := v2.trn t' n_v2_v5.out
  replace v3 := v3.trn t' n_v3_v5.out
  replace v4 := v4.trn t' n_v4_v5.out
  replace HD := Lib.hid (HD.out.trn HL_v5.out t')
  clear t' v5
  have v5 := r'
  clear r'
  go_wp2_with (first | ((with_reducible refine load33 v1 rfl ?_ ?_ ?_); rfl; rfl) | (go_at_call 19; (with_reducible refine (Ce.out _ oz.out (T.dn HD.out)).mono ?_); rintro e w' ⟨me, rfl, oe, ee, d'⟩; refine Hid.out ?_))
  refine Lib.hid ?_
  replace v1 := v1.dn d'
  replace v2 := v2.dn d'
  replace v3 := v3.dn d'
  replace v4 := v4.dn d'
  replace v5 := v5.dn d'
  replace oa := Lib.hid (oa.out.dn d')
  replace ob := Lib.hid (ob.out.dn d')
  replace oz := Lib.hid (oz.out.dn d')
  replace HD := Lib.hid (HD.out.trans d')
  clear d'
  have le := oe.out.len
  have ne16 : me.c.getD 16 0 = 8 := by rw [ee.out.c]; rfl
  have neh : me.h = true := ee.out.h
  clear Ce oe ee
  go_wp2_with (first | ((with_reducible refine wpList_alloc zeroMach ?_ ?_); rfl; intro b_v6 w' nn; refine Hid.out ?_))
  refine Lib.hid ?_
  have n_v1_v6 := Lib.hid (nn.ne _ v1.lt)
  have n_v2_v6 := Lib.hid (nn.ne _ v2.lt)
  have n_v3_v6 := Lib.hid (nn.ne _ v3.lt)
  have n_v4_v6 := Lib.hid (nn.ne _ v4.lt)
  have n_v5_v6 := Lib.hid (nn.ne _ v5.lt)
  have HL_v6 : Hid (W.heap.size ≤ b_v6) := Lib.hid (Blk.hi nn HD.out.size)
  have d' := nn.dn
  replace v1 := v1.dn d'
  replace v2 := v2.dn d'
  replace v3 := v3.dn d'
  replace v4 := v4.dn d'
  replace v5 := v5.dn d'
  replace oa := Lib.hid (oa.out.dn d')
  replace ob := Lib.hid (ob.out.dn d')
  replace oz := Lib.hid (oz.out.dn d')
  replace HD := Lib.hid (HD.out.trans d')
  have v6 := nn.blk
  clear d' nn
  go_wp2_with (first | ((with_reducible refine store33 me le v6 zlen ?_ ?_ ?_ ?_); rfl; rfl; rfl; intro w' r' t'; refine Hid.out ?_))
  refine Lib.hid ?_
  replace oa := Lib.hid (oa.out.trn v6 (NoU8.mach _) t')
  replace ob := Lib.hid (ob.out.trn v6 (NoU8.mach _) t')
  replace oz := Lib.hid (oz.out.trn v6 (NoU8.mach _) t')
  replace v1 := v1.trn t' n_v1_v6.out
  replace v2 := v2.trn t' n_v2_v6.out
  replace v3 := v3.trn t' n_v3_v6.out
  replace v4 := v4.trn t' n_v4_v6.out
  replace v5 := v5.trn t' n_v5_v6.out
  replace HD := Lib.hid (HD.out.trn HL_v6.out t')
  clear t' v6
  have v6 := r'
  clear r'
  go_wp2_with (first | ((with_reducible refine load33 v1 rfl ?_ ?_ ?_); rfl; rfl) | (go_at_call 19; (with_reducible refine (Cf.out _ oz.out (T.dn HD.out)).mono ?_); rintro e w' ⟨mf, rfl, of, ef, d'⟩; refine Hid.out ?_))
  refine Lib.hid ?_
  replace v1 := v1.dn d'
  replace v2 := v2.dn d'
  replace v3 := v3.dn d'
  replace v4 := v4.dn d'
  replace v5 := v5.dn d'
  replace v6 := v6.dn d'
  replace oa := Lib.hid (oa.out.dn d')
  replace ob := Lib.hid (ob.out.dn d')
  replace oz := Lib.hid (oz.out.dn d')
  replace HD := Lib.hid (HD.out.trans d')
  clear d'
  have lf := of.out.len
  have nf16 : mf.c.getD 16 0 = 0 := by rw [ef.out.c]; rfl
  have nfh : mf.h = false := ef.out.h
  clear Cf of ef
  go_wp2_with (first | ((with_reducible refine wpList_alloc zeroMach ?_ ?_); rfl; intro b_v7 w' nn; refine Hid.out ?_))
  refine Lib.hid ?_
  have n_v1_v7 := Lib.hid (nn.ne _ v1.lt)
  have n_v2_v7 := Lib.hid (nn.ne _ v2.lt)
  have n_v3_v7 := Lib.hid (nn.ne _ v3.lt)
  have n_v4_v7 := Lib.hid (nn.ne _ v4.lt)
  have n_v5_v7 := Lib.hid (nn.ne _ v5.lt)
  have n_v6_v7 := Lib.hid (nn.ne _ v6.lt)
  have HL_v7 : Hid (W.heap.size ≤ b_v7) := Lib.hid (Blk.hi nn HD.out.size)
  have d' := nn.dn
  replace v1 := v1.dn d'
  replace v2 := v2.dn d'
  replace v3 := v3.dn d'
  replace v4 := v4.dn d'
  replace v5 := v5.dn d'
  replace v6 := v6.dn d'
  replace oa := Lib.hid (oa.out.dn d')
  replace ob := Lib.hid (ob.out.dn d')
  replace oz := Lib.hid (oz.out.dn d')
  replace HD := Lib.hid (HD.out.trans d')
  have v7 := nn.blk
  clear d' nn
  go_wp2_with (first | ((with_reducible refine store33 mf lf v7 zlen ?_ ?_ ?_ ?_); rfl; rfl; rfl; intro w' r' t'; refine Hid.out ?_))
  refine Lib.hid ?_
  replace oa := Lib.hid (oa.out.trn v7 (NoU8.mach _) t')
  replace ob := Lib.hid (ob.out.trn v7 (NoU8.mach _) t')
  replace oz := Lib.hid (oz.out.trn v7 (NoU8.mach _) t')
  replace v1 := v1.trn t' n_v1_v7.out
  replace v2 := v2.trn t' n_v2_v7.out
  replace v3 := v3.trn t' n_v3_v7.out
  replace v4 := v4.trn t' n_v4_v7.out
  replace v5 := v5.trn t' n_v5_v7.out
  replace v6 := v6.trn t' n_v6_v7.out
  replace HD := Lib.hid (HD.out.trn HL_v7.out t')
  clear t' v7
  have v7 := r'
  clear r'
  go_upto_region 10 with (fail)
  simp only [List.append]
  have ck0 := v2.out la
  go_wp2_with (first | (go_at_call 14; (with_reducible refine (CS.out _ ma _ oa.out ea.out).mono ?_); rintro e w' ⟨rfl, d'⟩; refine Hid.out ?_))
  refine Lib.hid ?_
  clear ck0
  replace v1 := v1.dn d'
  replace v2 := v2.dn d'
  replace v3 := v3.dn d'
  replace v4 := v4.dn d'
  replace v5 := v5.dn d'
  replace v6 := v6.dn d'
  replace v7 := v7.dn d'
  replace oa := Lib.hid (oa.out.dn d')
  replace ob := Lib.hid (ob.out.dn d')
  replace oz := Lib.hid (oz.out.dn d')
  replace HD := Lib.hid (HD.out.trans d')
  clear d'
  have ck0 := v2.word la 16 rfl
  rw [na16] at ck0
  have ck1 := v3.word lb 21 rfl
  rw [nb21] at ck1
  have ck2 := v4.word lc 2 rfl
  rw [nc2] at ck2
  have ck3 := v4.word lc 16 rfl
  rw [nc16] at ck3
  have ck4 := v5.word ld 2 rfl
  rw [nd2] at ck4
  have ck5 := v6.halted le
  rw [neh] at ck5
  have ck6 := v6.word le 16 rfl
  rw [ne16] at ck6
  have ck7 := v7.halted lf
  rw [nfh] at ck7
  have ck8 := v7.word lf 16 rfl
  rw [nf16] at ck8
  go_wp2_with (first | (go_at_call 16; (with_reducible refine (CR1.out _).mono ?_); rintro e w' ⟨rfl, d'⟩; refine Hid.out ?_))
  refine Lib.hid ?_
  clear ck0 ck1 ck2 ck3 ck4 ck5 ck6 ck7 ck8
  replace v1 := v1.dn d'
  replace v2 := v2.dn d'
  replace v3 := v3.dn d'
  replace v4 := v4.dn d'
  replace v5 := v5.dn d'
  replace v6 := v6.dn d'
  replace v7 := v7.dn d'
  replace oa := Lib.hid (oa.out.dn d')
  replace ob := Lib.hid (ob.out.dn d')
  replace oz := Lib.hid (oz.out.dn d')
  replace HD := Lib.hid (HD.out.trans d')
  clear d'
  go_wp2_with (first | (go_at_call 16; (with_reducible refine (CR2.out _).mono ?_); rintro e w' ⟨rfl, d'⟩; refine Hid.out ?_))
  refine Lib.hid ?_
  replace v1 := v1.dn d'
  replace v2 := v2.dn d'
  replace v3 := v3.dn d'
  replace v4 := v4.dn d'
  replace v5 := v5.dn d'
  replace v6 := v6.dn d'
  replace v7 := v7.dn d'
  replace oa := Lib.hid (oa.out.dn d')
  replace ob := Lib.hid (ob.out.dn d')
  replace oz := Lib.hid (oz.out.dn d')
  replace HD := Lib.hid (HD.out.trans d')
  clear d'
  go_wp2_with fail
  go_ret
  exact ⟨rfl, HD.out⟩
end Go.Proofs.YthkhahfhbhgfhaaDoor
namespace Go.Proofs.YthkhahfhbhgfhaaDoor
open Go.ChangeShapes Go.WideShapes Go.ChangeAt Go.RowKit
set_option linter.unusedVariables false

def laidL : List (String × DataW Unit) := [("gaoler/csr.masks", Rows.laid_gaoler_csr_masks)]
set_option maxRecDepth 100000 in
theorem start_shaped (os : Os) (args : Array Value) : ((World.laidAll Tryd.prog os laidL).forCall (fun _ _ => 0) ⟨#[], args, []⟩).Shaped Tryd.prog := World.shaped_of_ZipB (by kernel_rfl) (by kernel_rfl)
set_option maxRecDepth 100000 in
theorem start_met (os : Os) (args : Array Value) : laidMetH Tryd.prog laidL ((World.laidAll Tryd.prog os laidL).forCall (fun _ _ => 0) ⟨#[], args, []⟩).memory := by
  rw [MakeChecks.laidMetH_plain _ _ _ (by kernel_rfl)]
  exact laidMet_laidAll _ (by kernel_rfl) (by kernel_rfl)
namespace Cs
theorem cellsU32 : Tryd.prog.cellsOf 22 = 1 := by kernel_rfl
theorem cellsArr : Tryd.prog.cellsOf 24 = 12 := by kernel_rfl
theorem cellsInstr : Tryd.prog.cellsOf 32 = 5 := by kernel_rfl
section
variable {H : Type} {enc : TypeId × Value → H} {P : Program} {w : World} {base : Nat} {spare : Nat → Bool} {held : Bool}

/-- a cell of an array of integers that was read -/
theorem arr_int {m n : Nat} {e : TypeId} {cs : List Value} {xs : List (DataW H × List MemPlace)} {k : IntKind} (he : P.underlying e = some (.int k)) (hc : P.cellsOf e = 1)
    (hel : ∀ i, i < n → DataW.trod enc P w base spare held m e ((cs.drop (i * P.cellsOf e)).take (P.cellsOf e)) = xs[i]?) {i : Nat} (hi : i < n) {z : Int}
    (hz : (xs.map (·.1))[i]? = some (.lit (.int k z))) : cs[i]? = some (.int k z) := by
  have h := hel i hi
  rw [hc, Nat.mul_one] at h
  rw [List.getElem?_map] at hz
  cases hx : xs[i]? with
  | none => rw [hx] at hz; simp at hz
  | some y =>
    rw [hx] at hz h
    obtain ⟨q, e1, e2, _⟩ := DataW.trod_int he h
    rw [e2] at hz
    have hq : q = z := by simpa using hz
    have h2 : cs[i]? = ((cs.drop i).take 1)[0]? := by simp [List.getElem?_drop]
    rw [h2, e1, hq]; rfl

end
theorem gMasks : Tryd.prog.globalNamed "gaoler/csr.masks" = some 2 := by kernel_rfl
theorem tMasks : (Tryd.prog.globals[2]?).map (·.type) = some 24 := by kernel_rfl
theorem block_of_var {P : Program} {w : World} {n : String} {g : Nat} {cs : Array Value} (hg : P.globalNamed n = some g) (h : w.var? P n = some cs) : ∃ t fr, w.heap[g]? = some (.cells cs t fr) := by
  simp only [World.var?, hg, Option.bind_some] at h
  split at h
  · rename_i e; simp at h; subst h; exact ⟨_, _, e⟩
  · simp at h

theorem array_ints {cs : Array Value} {k : IntKind} {l : List Int} (hs : cs.size = l.length) (h : ∀ i, i < l.length → cs[i]? = some (.int k (l.getD i 0))) : cs = ints k l := by
  apply Array.ext_getElem?
  intro i
  by_cases hi : i < l.length
  · rw [h i hi, ints_get _ _ _ hi]
  · rw [Array.getElem?_eq_none (by omega), Array.getElem?_eq_none (by rw [ints_size]; omega)]
theorem laid_masks : Rows.laid_gaoler_csr_masks = (.agg (M.maskL.map fun x => .lit (.int .u32 x)) : DataW Unit) := rfl

theorem masks_of {W : World} (r : Lib.VarReads Tryd.prog W "gaoler/csr.masks" Rows.laid_gaoler_csr_masks) : ∃ t fr, W.heap[(2 : Nat)]? = some (.cells (ints .u32 M.maskL) t fr) := by
  obtain ⟨g0, t0, cs0, f0, p0, hg0, ht0, hv0, hd0⟩ := r
  obtain rfl := Option.some.inj (gMasks.symm.trans hg0)
  obtain rfl := Option.some.inj (tMasks.symm.trans ht0)
  obtain ⟨xs, m0, _, hx0, hsz, hn0, hel0⟩ := DataW.trod_array Tryd.underlying24 hd0
  simp only [Prod.mk.injEq] at hx0
  have hm : xs.map (·.1) = M.maskL.map fun x => .lit (.int .u32 x) := by
    have := hx0.1.symm.trans laid_masks
    injection this
  have e : cs0 = ints .u32 M.maskL := array_ints (by rw [← Array.length_toList, hsz]; exact cellsArr) fun i hi => by
    rw [← Array.getElem?_toList]
    refine arr_int Tryd.underlying22 cellsU32 hel0 (show i < 12 from hi) ?_
    rw [hm, List.getElem?_map, List.getElem?_eq_getElem hi]
    simp [List.getD, hi]
  rw [← e]
  exact block_of_var hg0 hv0
section
variable {H : Type} {enc : TypeId × Value → H} {w : World} {base : Nat} {spare : Nat → Bool} {held : Bool}

set_option maxRecDepth 100000 in
/-- an instruction among the arguments -/
theorem open_instr {b0 : Nat} {v : Value} {d : DataW H} {p : List MemPlace} (hv : Value.okWide Tryd.prog w .any b0 32 v) (h : DataW.Trod enc Tryd.prog w base spare held 32 v d p) :
    ∃ op rd ra rb imm : Int, v = .agg #[.int .i64 op, .int .i64 rd, .int .i64 ra, .int .i64 rb, .int .i32 imm] ∧ d = .agg [.lit (.int .i64 op), .lit (.int .i64 rd), .lit (.int .i64 ra), .lit (.int .i64 rb), .lit (.int .i32 imm)] ∧ p = [] ∧
      (Lit.int .i64 op).wf = true ∧ (Lit.int .i64 rd).wf = true ∧ (Lit.int .i64 ra).wf = true ∧ (Lit.int .i64 rb).wf = true ∧ (Lit.int .i32 imm).wf = true := by
  obtain ⟨cs, rfl, hsz⟩ := okWide_struct Tryd.underlying32 hv
  obtain ⟨fuel, hf⟩ := h
  obtain ⟨xs, n, _, hx, _, hlen, hg⟩ := DataW.trod_struct Tryd.underlying32 hf
  obtain ⟨l⟩ := cs
  match l, hsz.trans cellsInstr with
  | [c0, c1, c2, c3, c4], _ =>
    match xs, hlen with
    | [y0, y1, y2, y3, y4], _ =>
      have g0 := hg 0 _ rfl
      have g1 := hg 1 _ rfl
      have g2 := hg 2 _ rfl
      have g3 := hg 3 _ rfl
      have g4 := hg 4 _ rfl
      simp only [Value.cells] at g0 g1 g2 g3 g4
      obtain ⟨op, e0, z0, w0⟩ := DataW.trod_int (cs := [c0]) Tryd.underlying3 g0
      obtain ⟨rd, e1, z1, w1⟩ := DataW.trod_int (cs := [c1]) Tryd.underlying3 g1
      obtain ⟨ra, e2, z2, w2⟩ := DataW.trod_int (cs := [c2]) Tryd.underlying3 g2
      obtain ⟨rb, e3, z3, w3⟩ := DataW.trod_int (cs := [c3]) Tryd.underlying3 g3
      obtain ⟨imm, e4, z4, w4⟩ := DataW.trod_int (cs := [c4]) Tryd.underlying21 g4
      injection e0 with e0; injection e1 with e1; injection e2 with e2; injection e3 with e3; injection e4 with e4
      subst e0 e1 e2 e3 e4 z0 z1 z2 z3 z4
      simp only [Prod.mk.injEq] at hx
      exact ⟨op, rd, ra, rb, imm, rfl, hx.1, hx.2, w0, w1, w2, w3, w4⟩


end
end Cs
/-- what the listed variables hold -/
abbrev Env (W : World) : Prop := Cs.CsrTabs W
theorem env_of {W : World} (h : laidMetH Tryd.prog laidL W) (hs : W.ShapedOpen Tryd.prog) : Env W := by
  rw [MakeChecks.laidMetH_plain _ _ _ (by kernel_rfl)] at h
  exact ⟨Cs.masks_of (Lib.laidMet.reads h (.head _))⟩
section
variable {H : Type} {enc : TypeId × Value → H}
/-- the wrap: the listed variables and the world's shape are handed on, and of what was there nothing turns -/
theorem returns_of_walk {a : Assume} {C : Checked} (hC : C.prog = Tryd.prog) {os : Os} {f : FuncId} {fn : Func} {s : ChangeSpec} {fresh handsOn : Bool}
    (own : ownKnob C.prog.godebug = none) (started : os.Started) (noInit : C.prog.inits.idxOf? f = none) (hfn : C.prog.funcs[f]? = some fn) (hvars : s.vars = [])
    (hread : ∀ t ∈ fn.params.toList, Tryd.prog.readableRec t = true ∧ t < Tryd.prog.types.size) (hres : fn.resultTypes = #[4])
    (hspec : ∀ (H : Type) (ds : List (DataW H)), ds.length = fn.params.size → (s.fn H ds).results = [.lit (.bool true)] ∧ (s.fn H ds).args = ds ∧ (s.fn H ds).vars = [])
    (witness : ∃ (w : World) (tape : Tape) (i : Input), w.os = os ∧ (w.forCall tape i).Shaped C.prog ∧ i.vars = [] ∧ Input.okWide C.prog (w.forCall tape i) .any w.heap.size f i ∧
      ((s.pre enc C.prog fn [] false (w.forCall tape i).memory i.args ∧ laidMetH C.prog laidL (w.forCall tape i).memory) ∧ sizedMet enc C.prog fn (OpenSpec.ofChange s) false (w.forCall tape i).memory i.args) ∧ a.holds C.prog (lone (Frame.enter C.prog f i.args .normal) [] (w.forCall tape i)))
    (walk : ∀ (W : World) (base : Nat) (args : Array Value) (ds : List (DataW H)) (ps : List MemPlace), Env W →
      (∀ (j : Nat) t v, fn.params[j]? = some t → args[j]? = some v → Value.okWide C.prog W .any base t v) →
      DataW.TrodAll enc C.prog W 0 (fun _ => true) true fn.params.toList args.toList ds ps →
      Calls C.prog f args W fun e W' => e = .returned (.bool true) ∧ Dn W W') :
    ReturnsInHanded a C os f .any (fun w args => (s.pre enc C.prog fn [] false w args ∧ laidMetH C.prog laidL w) ∧ sizedMet enc C.prog fn (OpenSpec.ofChange s) false w args) (s.post enc C.prog fn false fresh handsOn false) := by
  refine returnsInHanded_of_calls own started noInit witness ?_
  intro w tape i _ hsh _ hok hpre _
  obtain ⟨_, _, _, fn', hfn', _, _, _, _, hval⟩ := hok
  have e : fn' = fn := Option.some.inj (hfn'.symm.trans hfn)
  subst e
  obtain ⟨⟨⟨ds, gs, before, hw, _⟩, hx⟩, _⟩ := hpre
  have hw' := DataW.Whole.of_heap (w' := w.forCall tape i) (by rfl) hw
  have hE : Env (w.forCall tape i) := env_of (hC ▸ laidMetH.of_heap (w' := w.forCall tape i) (by rfl) hx) (hC ▸ hsh)
  generalize w.forCall tape i = W at *
  have hlt : ∀ p ∈ before, p.block < W.heap.size := fun p hp => hw'.lt p hp
  have hWh := hw'
  obtain ⟨p, q, hA, hV, rfl, hfz, hnd⟩ := hw'
  rw [hvars] at hV
  obtain ⟨rfl, rfl⟩ := trodVars_none hV
  have hlen : ds.length = fn'.params.size := by rw [(trodAll_length hA).2]; simp
  obtain ⟨s1, s2, s3⟩ := hspec H ds hlen
  simp only [List.append_nil] at hlt hWh
  refine (walk W _ i.args ds p hE hval hA).mono fun e W' ⟨he, hb⟩ => ?_
  subst he
  refine ChangeSpec.post_blind ?_
  exact ⟨ds, [], p, [], p, [], hWh, by rw [List.append_nil, s1, hres, hC]; exact trodAll_mk1 (shut_bool Tryd.underlying4 _),
    by rw [List.append_nil, s2, hC]; exact args_stay hb hread (hC ▸ hA) hlt (fun x hx => by simpa using hlt x hx),
    by rw [List.append_nil, s3, hvars]; trivial, hb.frame _, fun h => by cases h⟩
end

end Go.Proofs.YthkhahfhbhgfhaaDoor
