/-
  Plain mathematics: a key's values are those that it was made of. Nothing of the program is named here.
-/
import Derived.Test.YtfiopegkopfceaaKM
namespace Go.Proofs.Ytfiopegkopfceaa.M
open Go.RowKit

theorem foldl_get (l : List UInt8) : ∀ n : Nat, l.foldl (fun n c => n * 256 + c.toNat) n = n * 256 ^ l.length + getN l := by
  induction l with
  | nil => intro n; simp [getN]
  | cons c l ih =>
    intro n
    rw [List.foldl_cons, ih]
    have : getN (c :: l) = c.toNat * 256 ^ l.length + getN l := by
      show List.foldl _ (0 * 256 + c.toNat) l = _
      rw [ih]; simp
    rw [this, List.length_cons, Nat.pow_succ, Nat.add_mul, Nat.mul_assoc, Nat.mul_comm 256]; omega
theorem getN_cons (c : UInt8) (l : List UInt8) : getN (c :: l) = c.toNat * 256 ^ l.length + getN l := by
  show List.foldl _ (0 * 256 + c.toNat) l = _
  rw [foldl_get]; simp
theorem putL_succ (z n : Nat) : putL (z + 1) n = UInt8.ofNat (n / 256 ^ z) :: putL z n := by
  unfold putL
  rw [List.range_succ_eq_map, List.map_cons, List.map_map]
  congr 1
  · rw [show z + 1 - 1 - 0 = z by omega, show (2 : Nat) ^ (8 * z) = 256 ^ z by rw [Nat.pow_mul]]
  · apply List.map_congr_left
    intro j _
    simp only [Function.comp]
    rw [show z + 1 - 1 - (j + 1) = z - 1 - j by omega]
theorem getN_putL (z n : Nat) : getN (putL z n) = n % 256 ^ z := by
  induction z with
  | zero => simp [putL, getN, Nat.mod_one]
  | succ z ih =>
    rw [putL_succ, getN_cons, ih, putL_length, UInt8.toNat_ofNat']
    show n / 256 ^ z % 256 * 256 ^ z + n % 256 ^ z = n % 256 ^ (z + 1)
    rw [Nat.pow_succ, Nat.mod_mul, Nat.mul_comm]; omega
theorem getN_put (z n : Nat) (h : n < 256 ^ z) : getN (putL z n) = n := by rw [getN_putL, Nat.mod_eq_of_lt h]

theorem firstNum_put (n : Int) (h1 : -1099511627776 ≤ n) (h2 : n ≤ 1099511627776) (r : List UInt8) : firstNum (16 :: (putL 6 (n + 1099511627776).toNat ++ r)) = (([], n, false), 7, 0) := by
  unfold firstNum
  have hl : ¬ (16 :: (putL 6 (n + 1099511627776).toNat ++ r)).length < 7 := by simp [putL_length]
  have ht : ((16 :: (putL 6 (n + 1099511627776).toNat ++ r)).drop 1).take 6 = putL 6 (n + 1099511627776).toNat := by
    rw [List.drop_succ_cons, List.drop_zero, List.take_left' (putL_length _ _)]
  rw [if_neg hl, ht, getN_put 6 _ (by rw [show (256 : Nat) ^ 6 = 281474976710656 from rfl]; omega), if_neg (by omega)]
  rw [show (((n + 1099511627776).toNat : Int) - 1099511627776) = n by omega]
theorem scan_esc (r : List UInt8) : ∀ (t acc : List UInt8) (i : Nat), acc.length + t.length ≤ 20 → scan (esc t ++ 0 :: 1 :: r) acc i = ((acc ++ t, 0, true), i + (esc t).length + 2, 0)
  | [], acc, i, h => by
    simp only [esc, List.nil_append, List.append_nil]
    rw [scan_zero, if_neg (by decide), if_pos rfl, if_neg (by simp at h; omega)]
    simp
  | c :: t, acc, i, h => by
    simp only [List.length_cons] at h
    by_cases hc : c = 0
    · subst hc
      simp only [esc, if_pos, List.cons_append]
      rw [scan_zero, if_pos rfl, scan_esc r t (acc ++ [0]) (i + 2) (by simp; omega)]
      simp only [List.length_cons, List.append_assoc, List.cons_append, List.nil_append]
      congr 2; omega
    · simp only [esc, if_neg hc, List.cons_append]
      rw [scan_ne _ _ _ _ hc, scan_esc r t (acc ++ [c]) (i + 1) (by simp; omega)]
      simp only [List.length_cons, List.append_assoc, List.cons_append, List.nil_append]
      congr 2; omega
theorem firstV_one (v : V) (h : chk v = 0) (r : List UInt8) : firstV (one v ++ r) = (v, (one v).length, 0) := by
  obtain ⟨t, n, b⟩ := v
  cases b
  · have hn := chk_number h
    have ht : t = [] := by
      unfold chk at h
      rw [if_neg (by simp)] at h
      split at h
      · omega
      · rename_i hh; simp only [not_or, ne_eq, Decidable.not_not] at hh; exact hh.1
    subst ht
    have e : one ([], n, false) = 16 :: putL 6 (n + 1099511627776).toNat := rfl
    rw [e, List.cons_append]
    simp only [firstV, if_pos]
    rw [firstNum_put n hn.1 hn.2]
    simp [putL_length]
  · have ht := chk_text h
    have hn : n = 0 := by
      unfold chk at h
      rw [if_pos rfl] at h
      simp only at h
      split at h
      · omega
      · split at h
        · omega
        · rename_i hh; simpa using hh
    subst hn
    have e : one (t, 0, true) = 32 :: (esc t ++ [0, 1]) := rfl
    rw [e, List.cons_append, List.append_assoc]
    simp only [firstV, List.cons_append, List.nil_append]
    rw [if_neg (by decide), if_pos trivial, scan_esc r t [] 1 (by simpa using ht)]
    simp; omega
theorem one_pos (v : V) : 0 < (one v).length := by unfold one; split <;> simp
theorem getF_key : ∀ (L acc : List V), errOf L = 0 → getF (keyOf L).length (keyOf L) acc = (acc ++ L, 0)
  | [], acc, _ => by simp [keyOf, getF]
  | v :: L, acc, h => by
    have hv : chk v = 0 := by
      simp only [errOf] at h
      split at h
      · assumption
      · rename_i h0; exact absurd h h0
    have hL : errOf L = 0 := by simp only [errOf, if_pos hv] at h; exact h
    have e : keyOf (v :: L) = one v ++ keyOf L := by simp [keyOf]
    have hf := firstV_one v hv (keyOf L)
    have hne : one v ++ keyOf L ≠ [] := by
      intro e'
      have h1 := one_pos v
      have h2 := congrArg List.length e'
      rw [List.length_append, List.length_nil] at h2; omega
    rw [e, getF_step _ _ hne (by rw [hf]), hf]
    simp only [List.drop_left]
    rw [getF_key L (acc ++ [v]) hL]
    simp
/-- A key's values. -/
theorem get_key (L : List V) (h : errOf L = 0) : get (keyOf L) = (L, 0) := by
  unfold get; rw [getF_key L [] h]; rfl
theorem key_inj (A B : List V) (hA : errOf A = 0) (hB : errOf B = 0) : (keyOf A == keyOf B) = decide (A = B) := by
  rw [Bool.eq_iff_iff, beq_iff_eq, decide_eq_true_eq]
  constructor
  · intro e
    have h1 := get_key A hA
    rw [e, get_key B hB] at h1
    injection h1 with h1
    exact h1.symm
  · rintro rfl; rfl
end Go.Proofs.Ytfiopegkopfceaa.M
