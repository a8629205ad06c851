/-
  Plain mathematics: whatever is told of a key's bytes makes that key again. Nothing of the program is named here.
-/
import Derived.Test.YtfiopegkopfceaaKN
namespace Go.Proofs.Ytfiopegkopfceaa.M
open Go.RowKit

theorem getN_inj : ∀ (p q : List UInt8), p.length = q.length → getN p = getN q → p = q
  | [], [], _, _ => rfl
  | [], _ :: _, hl, _ => by simp at hl
  | _ :: _, [], hl, _ => by simp at hl
  | c :: p, d :: q, hl, h => by
    have hl' : p.length = q.length := by simpa using hl
    rw [getN_cons, getN_cons, hl'] at h
    have hp := getN_lt p
    have hq := getN_lt q
    rw [hl'] at hp
    rcases Nat.lt_trichotomy c.toNat d.toNat with hc | hc | hc
    · exfalso
      have : (c.toNat + 1) * 256 ^ q.length ≤ d.toNat * 256 ^ q.length := Nat.mul_le_mul_right _ hc
      rw [Nat.add_mul] at this
      omega
    · have : c = d := UInt8.toNat_inj.1 hc
      subst this
      rw [getN_inj p q hl' (by omega)]
    · exfalso
      have : (d.toNat + 1) * 256 ^ q.length ≤ c.toNat * 256 ^ q.length := Nat.mul_le_mul_right _ hc
      rw [Nat.add_mul] at this
      omega
theorem putL_getN (D : List UInt8) : putL D.length (getN D) = D := by
  refine getN_inj _ _ (putL_length _ _) ?_
  rw [getN_put _ _ (getN_lt D)]
theorem scan_inv : ∀ (m : Nat) (l acc : List UInt8) (i : Nat), l.length ≤ m → (scan l acc i).2.2 = 0 →
    ∃ t r, l = esc t ++ 0 :: 1 :: r ∧ scan l acc i = ((acc ++ t, 0, true), i + (esc t).length + 2, 0) ∧ (acc ++ t).length ≤ 20 := by
  intro m
  induction m with
  | zero => intro l acc i h e; rw [List.length_eq_zero_iff.1 (by omega : l.length = 0)] at e; simp [scan] at e
  | succ m ih =>
    intro l acc i h e
    match l, h, e with
    | [], _, e => simp [scan] at e
    | [c], _, e =>
      by_cases hc : c = 0
      · subst hc; simp [scan] at e
      · simp [scan, hc] at e
    | c :: d :: l, h, e =>
      by_cases hc : c = 0
      · subst hc
        rw [scan_zero] at e ⊢
        split at e
        · rename_i hd
          rw [if_pos hd]
          subst hd
          obtain ⟨t, r, h1, h2, h3⟩ := ih l (acc ++ [0]) (i + 2) (by simp at h; omega) e
          refine ⟨0 :: t, r, ?_, ?_, ?_⟩
          · simp only [esc, if_pos, List.cons_append]; rw [← h1]
          · rw [h2]; simp only [esc, if_pos, List.append_assoc, List.cons_append, List.nil_append, List.length_cons]
            rw [show i + 2 + (esc t).length + 2 = i + ((esc t).length + 1 + 1) + 2 by omega]
          · simpa using h3
        · rename_i hd
          rw [if_neg hd]
          split at e
          · rename_i hd1
            rw [if_pos hd1]
            subst hd1
            split at e
            · simp at e
            · rename_i h20
              rw [if_neg h20]
              exact ⟨[], l, rfl, by simp [esc], by simp; omega⟩
          · simp at e
      · rw [scan_ne _ _ _ _ hc] at e ⊢
        obtain ⟨t, r, h1, h2, h3⟩ := ih (d :: l) (acc ++ [c]) (i + 1) (by simp at h ⊢; omega) e
        refine ⟨c :: t, r, ?_, ?_, ?_⟩
        · simp only [esc, if_neg hc, List.cons_append]; rw [← h1]
        · rw [h2]; simp only [esc, if_neg hc, List.append_assoc, List.cons_append, List.nil_append, List.length_cons]
          rw [show i + 1 + (esc t).length + 2 = i + ((esc t).length + 1) + 2 by omega]
        · simpa using h3
theorem firstV_inv (l : List UInt8) (e : (firstV l).2.2 = 0) : chk (firstV l).1 = 0 ∧ l = one (firstV l).1 ++ l.drop (firstV l).2.1 ∧ 3 ≤ (firstV l).2.1 := by
  cases l with
  | nil => simp [firstV] at e
  | cons c r =>
    by_cases hc : c = 16
    · subst hc
      have hf : firstV (16 :: r) = firstNum (16 :: r) := by simp [firstV]
      rw [hf] at e ⊢
      by_cases h7 : (16 :: r).length < 7
      · exfalso; unfold firstNum at e; rw [if_pos h7] at e; simp at e
      · by_cases hb : 2199023255552 < getN (((16 :: r).drop 1).take 6)
        · exfalso; unfold firstNum at e; rw [if_neg h7, if_pos hb] at e; simp at e
        · have e2 : firstNum (16 :: r) = (([], (getN (((16 :: r).drop 1).take 6) : Int) - 1099511627776, false), 7, 0) := by unfold firstNum; rw [if_neg h7, if_neg hb]
          rw [e2]
          have e3 : ((16 :: r).drop 1) = r := rfl
          rw [e3] at hb ⊢
          have h6 : (r.take 6).length = 6 := by rw [List.length_take]; simp at h7; omega
          refine ⟨?_, ?_, by simp only; omega⟩
          · unfold chk; rw [if_neg (by simp), if_neg]
            rintro (h | h | h)
            · exact h rfl
            · simp only at h; omega
            · simp only at h; omega
          · have e4 : one ([], (getN (r.take 6) : Int) - 1099511627776, false) = 16 :: putL 6 ((getN (r.take 6) : Int) - 1099511627776 + 1099511627776).toNat := rfl
            rw [e4, show ((getN (r.take 6) : Int) - 1099511627776 + 1099511627776).toNat = getN (r.take 6) by omega]
            have e5 := putL_getN (r.take 6)
            rw [h6] at e5
            rw [e5]
            show 16 :: r = 16 :: r.take 6 ++ r.drop 6
            rw [List.cons_append, List.take_append_drop]
    · by_cases h32 : c = 32
      · subst h32
        have hf : firstV (32 :: r) = scan r [] 1 := by simp [firstV]
        rw [hf] at e ⊢
        obtain ⟨t, r', h1, h2, h3⟩ := scan_inv r.length r [] 1 (Nat.le_refl _) e
        rw [h2]
        refine ⟨?_, ?_, by simp only; omega⟩
        · unfold chk; rw [if_pos rfl, if_neg (by simp at h3 ⊢; omega), if_neg (by simp)]
        · have e4 : one (([] : List UInt8) ++ t, 0, true) = 32 :: (esc t ++ [0, 1]) := rfl
          rw [e4, h1, show 1 + (esc t).length + 2 = (32 :: (esc t ++ [0, 1])).length by simp; omega]
          have e5 : (32 : UInt8) :: (esc t ++ 0 :: 1 :: r') = (32 :: (esc t ++ [0, 1])) ++ r' := by simp
          rw [e5, List.drop_left]
      · exfalso; simp only [firstV, if_neg hc, if_neg h32] at e; simp at e
theorem getF_inv : ∀ (n : Nat) (l : List UInt8) (acc : List V), l.length ≤ n → errOf acc = 0 → (getF n l acc).2 = 0 →
    errOf (getF n l acc).1 = 0 ∧ keyOf (getF n l acc).1 = keyOf acc ++ l ∧ 3 * (getF n l acc).1.length ≤ 3 * acc.length + l.length := by
  intro n
  induction n with
  | zero =>
    intro l acc h ha _
    rw [List.length_eq_zero_iff.1 (by omega : l.length = 0)]
    simp [getF, ha]
  | succ n ih =>
    intro l acc h ha he
    by_cases hl : l = []
    · subst hl; simp [getF, ha]
    · by_cases h0 : (firstV l).2.2 = 0
      · have e : getF (n + 1) l acc = getF n (l.drop (firstV l).2.1) (acc ++ [(firstV l).1]) := by simp only [getF]; rw [if_neg hl, if_pos h0]
        obtain ⟨h1, h2, h3⟩ := firstV_inv l h0
        have hu := firstV_used l h0
        rw [e] at he ⊢
        obtain ⟨k1, k2, k3⟩ := ih (l.drop (firstV l).2.1) (acc ++ [(firstV l).1]) (by rw [List.length_drop]; omega) (by rw [errOf_snoc _ _ ha]; exact h1) he
        refine ⟨k1, ?_, ?_⟩
        · rw [k2, keyOf_snoc, List.append_assoc, ← h2]
        · rw [List.length_append, List.length_drop] at k3; simp only [List.length_cons, List.length_nil] at k3; omega
      · exfalso
        have e : getF (n + 1) l acc = ([], (firstV l).2.2) := by simp only [getF]; rw [if_neg hl, if_neg h0]
        rw [e] at he; exact h0 he
theorem getF_err : ∀ (n : Nat) (l : List UInt8) (acc : List V), (getF n l acc).2 ≠ 0 → (getF n l acc).1 = [] := by
  intro n
  induction n with
  | zero => intro l acc h; simp [getF] at h
  | succ n ih =>
    intro l acc h
    simp only [getF] at h ⊢
    split
    · rename_i hl; rw [if_pos hl] at h; simp at h
    · rename_i hl
      rw [if_neg hl] at h
      split
      · rename_i h0; rw [if_pos h0] at h; exact ih _ _ h
      · rfl
/-- What 'get' tells without an error makes the key again. -/
theorem get_inv (l : List UInt8) (h : (get l).2 = 0) : errOf (get l).1 = 0 ∧ keyOf (get l).1 = l ∧ 3 * (get l).1.length ≤ l.length := by
  have := getF_inv l.length l [] (Nat.le_refl _) rfl h
  refine ⟨this.1, this.2.1, ?_⟩
  have h3 := this.2.2
  simp only [List.length_nil, Nat.mul_zero, Nat.zero_add] at h3
  exact h3
theorem get_err (l : List UInt8) (h : (get l).2 ≠ 0) : (get l).1 = [] := getF_err l.length l [] h
end Go.Proofs.Ytfiopegkopfceaa.M
