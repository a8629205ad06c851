/-
  Plain mathematics, more: numbers and their bytes, the order of both; the linear step of the sum, spoilt bytes. Nothing of the program is named here.
-/
import Derived.Test.YtfiopegkopfceaaDoorM
namespace Go.Proofs.YtfiopegkopfceaaDoor.M
open Go.RowKit

theorem foldl_get (l : List UInt8) : ∀ n : Nat, l.foldl (fun n c => n * 256 + c.toNat) n = n * 256 ^ l.length + getN l := by
  induction l with
  | nil => intro n; simp [getN]
  | cons c l ih =>
    intro n
    rw [List.foldl_cons, ih]
    have : getN (c :: l) = c.toNat * 256 ^ l.length + getN l := by
      show List.foldl _ (0 * 256 + c.toNat) l = _
      rw [ih]; simp
    rw [this, List.length_cons, Nat.pow_succ, Nat.add_mul, Nat.mul_assoc, Nat.mul_comm 256]; omega
theorem getN_cons (c : UInt8) (l : List UInt8) : getN (c :: l) = c.toNat * 256 ^ l.length + getN l := by
  show List.foldl _ (0 * 256 + c.toNat) l = _
  rw [foldl_get]; simp
theorem less_getN : ∀ (a b : List UInt8), a.length = b.length → Op.bytesLess a b = decide (getN a < getN b)
  | [], [], _ => by simp [Op.bytesLess]
  | [], _ :: _, h => by simp at h
  | _ :: _, [], h => by simp at h
  | c :: a, d :: b, h => by
    have hl : a.length = b.length := by simpa using h
    have ha := getN_lt a
    have hb := getN_lt b
    rw [Op.bytesLess, less_getN a b hl, getN_cons, getN_cons, hl]
    rw [hl] at ha
    generalize 256 ^ b.length = P at *
    generalize getN a = x at *
    generalize getN b = y at *
    rw [Bool.eq_iff_iff]
    simp only [Bool.or_eq_true, Bool.and_eq_true, decide_eq_true_eq, beq_iff_eq]
    rw [UInt8.lt_iff_toNat_lt, ← UInt8.toNat_inj]
    generalize c.toNat = c
    generalize d.toNat = d
    constructor
    · rintro (h | ⟨rfl, h⟩)
      · have : (c + 1) * P ≤ d * P := Nat.mul_le_mul_right _ h
        rw [Nat.add_mul] at this; omega
      · omega
    · intro h
      rcases Nat.lt_trichotomy c d with h1 | h1 | h1
      · exact Or.inl h1
      · subst h1; exact Or.inr ⟨rfl, by omega⟩
      · have : (d + 1) * P ≤ c * P := Nat.mul_le_mul_right _ h1
        rw [Nat.add_mul] at this; omega
theorem eq_getN : ∀ (a b : List UInt8), a.length = b.length → getN a = getN b → a = b
  | [], [], _, _ => rfl
  | [], _ :: _, h, _ => by simp at h
  | _ :: _, [], h, _ => by simp at h
  | c :: a, d :: b, h, e => by
    have hl : a.length = b.length := by simpa using h
    have ha := getN_lt a
    have hb := getN_lt b
    rw [getN_cons, getN_cons, hl] at e
    rw [hl] at ha
    have hcd : c.toNat = d.toNat ∧ getN a = getN b := by
      generalize 256 ^ b.length = P at *
      generalize getN a = x at *
      generalize getN b = y at *
      generalize c.toNat = c at *
      generalize d.toNat = d at *
      rcases Nat.lt_trichotomy c d with h1 | h1 | h1
      · have : (c + 1) * P ≤ d * P := Nat.mul_le_mul_right _ h1
        rw [Nat.add_mul] at this; omega
      · subst h1; exact ⟨rfl, by omega⟩
      · have : (d + 1) * P ≤ c * P := Nat.mul_le_mul_right _ h1
        rw [Nat.add_mul] at this; omega
    rw [UInt8.toNat_inj.1 hcd.1, eq_getN a b hl hcd.2]
theorem putL_succ (z n : Nat) : putL (z + 1) n = UInt8.ofNat (n / 256 ^ z) :: putL z n := by
  unfold putL
  rw [List.range_succ_eq_map, List.map_cons, List.map_map]
  congr 1
  · rw [show z + 1 - 1 - 0 = z by omega, show (2 : Nat) ^ (8 * z) = 256 ^ z by rw [Nat.pow_mul]]
  · apply List.map_congr_left
    intro j _
    simp only [Function.comp]
    rw [show z + 1 - 1 - (j + 1) = z - 1 - j by omega]
theorem getN_putL (z n : Nat) : getN (putL z n) = n % 256 ^ z := by
  induction z with
  | zero => simp [putL, getN, Nat.mod_one]
  | succ z ih =>
    rw [putL_succ, getN_cons, ih, putL_length, UInt8.toNat_ofNat']
    show n / 256 ^ z % 256 * 256 ^ z + n % 256 ^ z = n % 256 ^ (z + 1)
    rw [Nat.pow_succ, Nat.mod_mul, Nat.mul_comm]; omega
theorem getN_put (z n : Nat) (h : n < 256 ^ z) : getN (putL z n) = n := by rw [getN_putL, Nat.mod_eq_of_lt h]
theorem putL_less (z a b : Nat) (ha : a < 256 ^ z) (hb : b < 256 ^ z) : Op.bytesLess (putL z a) (putL z b) = decide (a < b) := by
  rw [less_getN _ _ (by rw [putL_length, putL_length]), getN_put z a ha, getN_put z b hb]
theorem putL_eq (z a b : Nat) (ha : a < 256 ^ z) (hb : b < 256 ^ z) : (putL z a == putL z b) = decide (a = b) := by
  rw [Bool.eq_iff_iff, beq_iff_eq, decide_eq_true_eq]
  constructor
  · intro h; rw [← getN_put z a ha, ← getN_put z b hb, h]
  · rintro rfl; rfl
/-- An int and a mask of ones: what is left. -/
theorem i64_mask (n : Int) (k : Nat) (hk : k ≤ 62) : bits .and .i64 n ((2 ^ k - 1 : Nat) : Int) = n % ((2 ^ k : Nat) : Int) := by
  have hp : 2 ^ k ≤ 2 ^ 62 := Nat.pow_le_pow_right (by decide) hk
  have h0 : 0 < 2 ^ k := Nat.pow_pos (by decide)
  have hm : (BitVec.ofInt 64 ((2 ^ k - 1 : Nat) : Int)).toNat = 2 ^ k - 1 := ofInt_u64 _ (by omega)
  have key : (BitVec.ofInt 64 n &&& BitVec.ofInt 64 ((2 ^ k - 1 : Nat) : Int)).toNat = (n % ((2 ^ 64 : Nat) : Int)).toNat % 2 ^ k := by
    rw [BitVec.toNat_and, BitVec.toNat_ofInt, hm, Nat.and_two_pow_sub_one_eq_mod]
  show IntKind.i64.wrap ((BitVec.ofInt 64 n &&& BitVec.ofInt 64 ((2 ^ k - 1 : Nat) : Int)).toNat : Nat) = _
  have hlt : (n % ((2 ^ 64 : Nat) : Int)).toNat % 2 ^ k < 2 ^ k := Nat.mod_lt _ h0
  rw [key, wrap_i64_nat _ (by omega)]
  rw [Int.natCast_emod, Int.toNat_of_nonneg (Int.emod_nonneg _ (by decide))]
  exact Int.emod_emod_of_dvd n (by exact_mod_cast Nat.pow_dvd_pow 2 (show k ≤ 64 by omega))
end Go.Proofs.YtfiopegkopfceaaDoor.M
