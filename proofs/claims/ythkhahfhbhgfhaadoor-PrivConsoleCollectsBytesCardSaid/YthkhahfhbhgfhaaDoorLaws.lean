/-
  The laws of fields over integers: what is read after a field is replaced, how fields part, how a signed reading comes back. Plain facts, no program in sight. Conditions: those that stand in each lemma.
-/
import Derived.Test.YthkhahfhbhgfhaaDoorFields
namespace Go.Proofs.YthkhahfhbhgfhaaDoor.M
open Go.RowKit

theorem E_rng (w a n : Int) (hn : n ≤ 32) : 0 ≤ E w a n ∧ E w a n < 4294967296 := by
  have h := ext_lt w.toNat a.toNat n.toNat
  have h2 : 2 ^ n.toNat ≤ 2 ^ 32 := Nat.pow_le_pow_right (by decide) (by omega)
  unfold E; omega

theorem I_rng (w a n v : Int) (hw : w < 4294967296) (ha : 0 ≤ a) (hn : 0 ≤ n) (h : a + n ≤ 32) : 0 ≤ I w a n v ∧ I w a n v < 4294967296 := by
  have h := ins_lt w.toNat a.toNat n.toNat v.toNat 32 (by omega) (by omega)
  unfold I; omega

theorem E_I (w a n v : Int) : E (I w a n v) a n = E v 0 n := by
  unfold E I; rw [Int.toNat_natCast, ext_ins]; rfl

theorem I_back (w a n v : Int) (hw : 0 ≤ w) : I (I w a n v) a n (E w a n) = w := by
  unfold E I; rw [Int.toNat_natCast, Int.toNat_natCast, ins_back]; omega

theorem I_I (w a n v u : Int) : I (I w a n v) a n u = I w a n u := by
  unfold I; rw [Int.toNat_natCast, ins_ins]

theorem E_apart (w a n v b m : Int) (ha : 0 ≤ a) (hn : 0 ≤ n) (hb : 0 ≤ b) (hm : 0 ≤ m) (h : a + n ≤ b ∨ b + m ≤ a) : E (I w a n v) b m = E w b m := by
  unfold E I; rw [Int.toNat_natCast, ext_apart _ _ _ _ _ _ (by omega)]

theorem I_apart (w a n v b m u : Int) (ha : 0 ≤ a) (hn : 0 ≤ n) (hb : 0 ≤ b) (hm : 0 ≤ m) (h : a + n ≤ b ∨ b + m ≤ a) : I (I w b m u) a n v = I (I w a n v) b m u := by
  unfold I; rw [Int.toNat_natCast, Int.toNat_natCast, ins_apart _ _ _ _ _ _ _ (by omega)]

theorem I_whole (u w : Int) (hu : u < 4294967296) (hw0 : 0 ≤ w) (hw : w < 4294967296) : I u 0 32 w = w := by
  have h := ins_whole u.toNat w.toNat 32 (by omega) (by omega)
  unfold I
  show ((ins u.toNat 0 32 w.toNat : Nat) : Int) = w
  rw [h]; omega

theorem E_whole (w : Int) (hw0 : 0 ≤ w) (hw : w < 4294967296) : E w 0 32 = w := by
  have h := ext_whole w.toNat 32 (by omega)
  unfold E
  show ((ext w.toNat 0 32 : Nat) : Int) = w
  rw [h]; omega

theorem E_split (w a n k : Int) (ha : 0 ≤ a) (hk : 0 ≤ k) (hn : k ≤ n) : E w a n = I (E w a k) k (n - k) (E w (a + k) (n - k)) := by
  unfold E I
  rw [Int.toNat_natCast, Int.toNat_natCast, show (n - k).toNat = n.toNat - k.toNat by omega, show (a + k).toNat = a.toNat + k.toNat by omega, ← ext_split _ _ _ _ (by omega)]

theorem I_split (u w a n k : Int) (ha : 0 ≤ a) (hk : 0 ≤ k) (hn : k ≤ n) : I u a n (E w a n) = I (I u a k (E w a k)) (a + k) (n - k) (E w (a + k) (n - k)) := by
  unfold E I
  rw [Int.toNat_natCast, Int.toNat_natCast, Int.toNat_natCast, Int.toNat_natCast, show (n - k).toNat = n.toNat - k.toNat by omega, show (a + k).toNat = a.toNat + k.toNat by omega, ← ins_split _ _ _ _ _ (by omega)]

theorem L_rng (x n : Int) (hn : n ≤ 32) : 0 ≤ L x n ∧ L x n < 4294967296 := by
  have h1 := pow_le32 n hn
  have h2 := pow_pos32 n
  have h3 := Int.emod_nonneg x (show (2 : Int) ^ n.toNat ≠ 0 by omega)
  have h4 := Int.emod_lt_of_pos x h2
  unfold L; omega

theorem S_rng (v n : Int) (hn0 : 1 ≤ n) (hn : n ≤ 32) : -2147483648 ≤ S v n ∧ S v n < 2147483648 := by
  obtain ⟨m, rfl⟩ := Int.eq_ofNat_of_zero_le (show 0 ≤ n by omega)
  unfold S
  rcases widths m (by omega) (by omega) with rfl | rfl | rfl | rfl | rfl | rfl | rfl | rfl | rfl | rfl | rfl | rfl | rfl | rfl | rfl | rfl | rfl | rfl | rfl | rfl | rfl | rfl | rfl | rfl | rfl | rfl | rfl | rfl | rfl | rfl | rfl | rfl <;> simp <;> omega

theorem F_S (v n : Int) (hn0 : 1 ≤ n) (hn : n ≤ 32) : F (S v n) n = true := by
  obtain ⟨m, rfl⟩ := Int.eq_ofNat_of_zero_le (show 0 ≤ n by omega)
  unfold F S
  rw [decide_eq_true_eq]
  rcases widths m (by omega) (by omega) with rfl | rfl | rfl | rfl | rfl | rfl | rfl | rfl | rfl | rfl | rfl | rfl | rfl | rfl | rfl | rfl | rfl | rfl | rfl | rfl | rfl | rfl | rfl | rfl | rfl | rfl | rfl | rfl | rfl | rfl | rfl | rfl <;> simp <;> omega

theorem L_S (v n : Int) (hv : 0 ≤ v) (hn0 : 1 ≤ n) (hn : n ≤ 32) : L (S v n) n = E v 0 n := by
  rw [← E_eq _ _ _ hv]
  obtain ⟨m, rfl⟩ := Int.eq_ofNat_of_zero_le (show 0 ≤ n by omega)
  unfold L S
  rcases widths m (by omega) (by omega) with rfl | rfl | rfl | rfl | rfl | rfl | rfl | rfl | rfl | rfl | rfl | rfl | rfl | rfl | rfl | rfl | rfl | rfl | rfl | rfl | rfl | rfl | rfl | rfl | rfl | rfl | rfl | rfl | rfl | rfl | rfl | rfl <;> simp <;> omega

theorem S_neg (v n : Int) (hv : 0 ≤ v) (hn0 : 1 ≤ n) (hn : n ≤ 32) : decide (S v n < 0) = (E v (n - 1) 1 == 1) := by
  rw [← E_eq _ _ _ hv]
  obtain ⟨m, rfl⟩ := Int.eq_ofNat_of_zero_le (show 0 ≤ n by omega)
  rw [Bool.eq_iff_iff, decide_eq_true_eq, beq_iff_eq]
  unfold S
  rcases widths m (by omega) (by omega) with rfl | rfl | rfl | rfl | rfl | rfl | rfl | rfl | rfl | rfl | rfl | rfl | rfl | rfl | rfl | rfl | rfl | rfl | rfl | rfl | rfl | rfl | rfl | rfl | rfl | rfl | rfl | rfl | rfl | rfl | rfl | rfl <;> simp <;> omega

theorem F_S_L (x n : Int) (hn0 : 1 ≤ n) (hn : n ≤ 32) : F x n = (S (L x n) n == x) := by
  obtain ⟨m, rfl⟩ := Int.eq_ofNat_of_zero_le (show 0 ≤ n by omega)
  rw [Bool.eq_iff_iff, beq_iff_eq]
  unfold F S L
  rw [decide_eq_true_eq]
  rcases widths m (by omega) (by omega) with rfl | rfl | rfl | rfl | rfl | rfl | rfl | rfl | rfl | rfl | rfl | rfl | rfl | rfl | rfl | rfl | rfl | rfl | rfl | rfl | rfl | rfl | rfl | rfl | rfl | rfl | rfl | rfl | rfl | rfl | rfl | rfl <;> simp <;> omega

theorem F_32 (x : Int) (h0 : -2147483648 ≤ x) (h1 : x < 2147483648) : F x 32 = true := by
  unfold F; rw [decide_eq_true_eq]; simp; omega

theorem F_up (x n : Int) (hn0 : 1 ≤ n) (hn : n < 32) (h : F x n = true) : F x (n + 1) = true := by
  obtain ⟨m, rfl⟩ := Int.eq_ofNat_of_zero_le (show 0 ≤ n by omega)
  have e : ((m : Int) + 1).toNat = m + 1 := by omega
  unfold F at h ⊢
  rw [e]
  rw [decide_eq_true_eq] at h ⊢
  rcases widths m (by omega) (by omega) with rfl | rfl | rfl | rfl | rfl | rfl | rfl | rfl | rfl | rfl | rfl | rfl | rfl | rfl | rfl | rfl | rfl | rfl | rfl | rfl | rfl | rfl | rfl | rfl | rfl | rfl | rfl | rfl | rfl | rfl | rfl | rfl <;> simp at h ⊢ <;> omega

theorem S_32 (w : Int) : S w 32 = wrap32 w := by
  unfold S wrap32; simp; omega

theorem L_32 (w : Int) (h0 : 0 ≤ w) (h : w < 4294967296) : L (wrap32 w) 32 = w := by
  unfold L wrap32; simp; omega

theorem halves (w : Int) (h0 : 0 ≤ w) (h : w < 4294967296) : E w 16 16 * 65536 + E w 0 16 = w ∧ E w 16 16 < 65536 ∧ 0 ≤ E w 16 16 ∧ 0 ≤ E w 0 16 ∧ E w 0 16 < 65536 := by
  rw [← E_eq _ _ _ h0, ← E_eq _ _ _ h0]; simp; omega

end Go.Proofs.YthkhahfhbhgfhaaDoor.M
