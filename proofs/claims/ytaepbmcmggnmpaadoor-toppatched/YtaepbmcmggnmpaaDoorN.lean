/-
  Plain mathematics, more: numbers and their bytes, the order of both; the linear step of the sum, spoilt bytes. Nothing of the program is named here.
-/
import Derived.Test.YtaepbmcmggnmpaaDoorM
namespace Go.Proofs.YtaepbmcmggnmpaaDoor.M
open Go.RowKit

theorem foldl_get (l : List UInt8) : ∀ n : Nat, l.foldl (fun n c => n * 256 + c.toNat) n = n * 256 ^ l.length + getN l := by
  induction l with
  | nil => intro n; simp [getN]
  | cons c l ih =>
    intro n
    rw [List.foldl_cons, ih]
    have : getN (c :: l) = c.toNat * 256 ^ l.length + getN l := by
      show List.foldl _ (0 * 256 + c.toNat) l = _
      rw [ih]; simp
    rw [this, List.length_cons, Nat.pow_succ, Nat.add_mul, Nat.mul_assoc, Nat.mul_comm 256]; omega
theorem getN_cons (c : UInt8) (l : List UInt8) : getN (c :: l) = c.toNat * 256 ^ l.length + getN l := by
  show List.foldl _ (0 * 256 + c.toNat) l = _
  rw [foldl_get]; simp
theorem less_getN : ∀ (a b : List UInt8), a.length = b.length → Op.bytesLess a b = decide (getN a < getN b)
  | [], [], _ => by simp [Op.bytesLess]
  | [], _ :: _, h => by simp at h
  | _ :: _, [], h => by simp at h
  | c :: a, d :: b, h => by
    have hl : a.length = b.length := by simpa using h
    have ha := getN_lt a
    have hb := getN_lt b
    rw [Op.bytesLess, less_getN a b hl, getN_cons, getN_cons, hl]
    rw [hl] at ha
    generalize 256 ^ b.length = P at *
    generalize getN a = x at *
    generalize getN b = y at *
    rw [Bool.eq_iff_iff]
    simp only [Bool.or_eq_true, Bool.and_eq_true, decide_eq_true_eq, beq_iff_eq]
    rw [UInt8.lt_iff_toNat_lt, ← UInt8.toNat_inj]
    generalize c.toNat = c
    generalize d.toNat = d
    constructor
    · rintro (h | ⟨rfl, h⟩)
      · have : (c + 1) * P ≤ d * P := Nat.mul_le_mul_right _ h
        rw [Nat.add_mul] at this; omega
      · omega
    · intro h
      rcases Nat.lt_trichotomy c d with h1 | h1 | h1
      · exact Or.inl h1
      · subst h1; exact Or.inr ⟨rfl, by omega⟩
      · have : (d + 1) * P ≤ c * P := Nat.mul_le_mul_right _ h1
        rw [Nat.add_mul] at this; omega
theorem eq_getN : ∀ (a b : List UInt8), a.length = b.length → getN a = getN b → a = b
  | [], [], _, _ => rfl
  | [], _ :: _, h, _ => by simp at h
  | _ :: _, [], h, _ => by simp at h
  | c :: a, d :: b, h, e => by
    have hl : a.length = b.length := by simpa using h
    have ha := getN_lt a
    have hb := getN_lt b
    rw [getN_cons, getN_cons, hl] at e
    rw [hl] at ha
    have hcd : c.toNat = d.toNat ∧ getN a = getN b := by
      generalize 256 ^ b.length = P at *
      generalize getN a = x at *
      generalize getN b = y at *
      generalize c.toNat = c at *
      generalize d.toNat = d at *
      rcases Nat.lt_trichotomy c d with h1 | h1 | h1
      · have : (c + 1) * P ≤ d * P := Nat.mul_le_mul_right _ h1
        rw [Nat.add_mul] at this; omega
      · subst h1; exact ⟨rfl, by omega⟩
      · have : (d + 1) * P ≤ c * P := Nat.mul_le_mul_right _ h1
        rw [Nat.add_mul] at this; omega
    rw [UInt8.toNat_inj.1 hcd.1, eq_getN a b hl hcd.2]
theorem putL_succ (z n : Nat) : putL (z + 1) n = UInt8.ofNat (n / 256 ^ z) :: putL z n := by
  unfold putL
  rw [List.range_succ_eq_map, List.map_cons, List.map_map]
  congr 1
  · rw [show z + 1 - 1 - 0 = z by omega, show (2 : Nat) ^ (8 * z) = 256 ^ z by rw [Nat.pow_mul]]
  · apply List.map_congr_left
    intro j _
    simp only [Function.comp]
    rw [show z + 1 - 1 - (j + 1) = z - 1 - j by omega]
theorem getN_putL (z n : Nat) : getN (putL z n) = n % 256 ^ z := by
  induction z with
  | zero => simp [putL, getN, Nat.mod_one]
  | succ z ih =>
    rw [putL_succ, getN_cons, ih, putL_length, UInt8.toNat_ofNat']
    show n / 256 ^ z % 256 * 256 ^ z + n % 256 ^ z = n % 256 ^ (z + 1)
    rw [Nat.pow_succ, Nat.mod_mul, Nat.mul_comm]; omega
theorem getN_put (z n : Nat) (h : n < 256 ^ z) : getN (putL z n) = n := by rw [getN_putL, Nat.mod_eq_of_lt h]
theorem putL_less (z a b : Nat) (ha : a < 256 ^ z) (hb : b < 256 ^ z) : Op.bytesLess (putL z a) (putL z b) = decide (a < b) := by
  rw [less_getN _ _ (by rw [putL_length, putL_length]), getN_put z a ha, getN_put z b hb]
theorem putL_eq (z a b : Nat) (ha : a < 256 ^ z) (hb : b < 256 ^ z) : (putL z a == putL z b) = decide (a = b) := by
  rw [Bool.eq_iff_iff, beq_iff_eq, decide_eq_true_eq]
  constructor
  · intro h; rw [← getN_put z a ha, ← getN_put z b hb, h]
  · rintro rfl; rfl
/-- An int and a mask of ones: what is left. -/
theorem i64_mask (n : Int) (k : Nat) (hk : k ≤ 62) : bits .and .i64 n ((2 ^ k - 1 : Nat) : Int) = n % ((2 ^ k : Nat) : Int) := by
  have hp : 2 ^ k ≤ 2 ^ 62 := Nat.pow_le_pow_right (by decide) hk
  have h0 : 0 < 2 ^ k := Nat.pow_pos (by decide)
  have hm : (BitVec.ofInt 64 ((2 ^ k - 1 : Nat) : Int)).toNat = 2 ^ k - 1 := ofInt_u64 _ (by omega)
  have key : (BitVec.ofInt 64 n &&& BitVec.ofInt 64 ((2 ^ k - 1 : Nat) : Int)).toNat = (n % ((2 ^ 64 : Nat) : Int)).toNat % 2 ^ k := by
    rw [BitVec.toNat_and, BitVec.toNat_ofInt, hm, Nat.and_two_pow_sub_one_eq_mod]
  show IntKind.i64.wrap ((BitVec.ofInt 64 n &&& BitVec.ofInt 64 ((2 ^ k - 1 : Nat) : Int)).toNat : Nat) = _
  have hlt : (n % ((2 ^ 64 : Nat) : Int)).toNat % 2 ^ k < 2 ^ k := Nat.mod_lt _ h0
  rw [key, wrap_i64_nat _ (by omega)]
  rw [Int.natCast_emod, Int.toNat_of_nonneg (Int.emod_nonneg _ (by decide))]
  exact Int.emod_emod_of_dvd n (by exact_mod_cast Nat.pow_dvd_pow 2 (show k ≤ 64 by omega))
theorem sealL_take (l : List UInt8) : (sealL l).take ((sealL l).length - 4) = l := by
  rw [sealL_length, Nat.add_sub_cancel]; exact List.take_left ..
theorem sealL_good (l : List UInt8) : good (sealL l) = true := by
  unfold good
  rw [sealL_take, sealL_length, Nat.add_sub_cancel, beq_iff_eq]
  exact List.drop_left ..
theorem openL_seal (l : List UInt8) : openL (sealL l) = (l, 0) := by
  unfold openL
  rw [if_neg (by rw [sealL_length]; omega), if_pos (sealL_good l), sealL_take]
theorem sealL_inj (a b : List UInt8) : (sealL a == sealL b) = (a == b) := by
  rw [Bool.eq_iff_iff, beq_iff_eq, beq_iff_eq]
  constructor
  · intro h; rw [← sealL_take a, ← sealL_take b, h]
  · rintro rfl; rfl
/-- One bit of the document's sum. -/
def bitStep (r c b : Nat) : Nat := if (r ^^^ c / 2 ^ b) % 2 = 1 then r / 2 ^^^ 3988292384 else r / 2
def bitsTo (r c : Nat) : Nat → Nat
  | 0 => r
  | k + 1 => bitStep (bitsTo r c k) c k
theorem bitStep_lt {r : Nat} (c b : Nat) (h : r < 4294967296) : bitStep r c b < 4294967296 := by
  unfold bitStep; split
  · exact xor_lt32 (by omega) (by decide)
  · omega
theorem bitsTo_lt (r c : Nat) (h : r < 4294967296) (k : Nat) : bitsTo r c k < 4294967296 := by
  induction k with
  | zero => exact h
  | succ k ih => exact bitStep_lt _ _ ih
/-- The linear step: one bit. -/
def step1 (x : Nat) : Nat := x / 2 ^^^ (if x % 2 = 1 then 3988292384 else 0)
def steps (x : Nat) : Nat → Nat
  | 0 => x
  | k + 1 => step1 (steps x k)
theorem step1_lt {x : Nat} (h : x < 4294967296) : step1 x < 4294967296 := by
  unfold step1; exact xor_lt32 (by omega) (by split <;> decide)
theorem steps_lt {x : Nat} (h : x < 4294967296) (k : Nat) : steps x k < 4294967296 := by
  induction k with
  | zero => exact h
  | succ k ih => exact step1_lt ih
theorem step1_xor (a b : Nat) : step1 (a ^^^ b) = step1 a ^^^ step1 b := by
  unfold step1
  rw [Nat.xor_div_two]
  have h := @Nat.xor_mod_two_eq_one a b
  by_cases ha : a % 2 = 1 <;> by_cases hb : b % 2 = 1
  · rw [if_neg (by rw [h]; simp [ha, hb]), if_pos ha, if_pos hb, Nat.xor_zero]
    rw [show a / 2 ^^^ 3988292384 ^^^ (b / 2 ^^^ 3988292384) = a / 2 ^^^ b / 2 ^^^ (3988292384 ^^^ 3988292384) by ac_rfl, Nat.xor_self, Nat.xor_zero]
  · rw [if_pos (by rw [h]; simp [ha, hb]), if_pos ha, if_neg hb, Nat.xor_zero]; ac_rfl
  · rw [if_pos (by rw [h]; simp [ha, hb]), if_neg ha, if_pos hb, Nat.xor_zero]; ac_rfl
  · rw [if_neg (by rw [h]; simp [ha, hb]), if_neg ha, if_neg hb]; simp
theorem steps_xor (a b k : Nat) : steps (a ^^^ b) k = steps a k ^^^ steps b k := by
  induction k with
  | zero => rfl
  | succ k ih => simp only [steps, ih, step1_xor]
theorem steps_add (x j k : Nat) : steps x (j + k) = steps (steps x j) k := by
  induction k with
  | zero => rfl
  | succ k ih => rw [← Nat.add_assoc]; simp only [steps, ih]
theorem step1_two (m : Nat) : step1 (m * 2) = m := by
  unfold step1; rw [if_neg (by omega), Nat.xor_zero]; omega
theorem parts16 (x : Nat) : (x / 16 * 16) ^^^ (x % 16) = x := by
  apply Nat.eq_of_testBit_eq
  intro i
  rw [Nat.testBit_xor, show (16 : Nat) = 2 ^ 4 from rfl, Nat.testBit_mul_two_pow, Nat.testBit_mod_two_pow, Nat.testBit_div_two_pow]
  by_cases h : i < 4
  · simp [h, show ¬ 4 ≤ i by omega]
  · simp [h, show 4 ≤ i by omega]
theorem nib_steps (x : Nat) : nib x = steps x 4 := by
  conv => rhs; rw [← parts16 x, steps_xor]
  have h1 : steps (x / 16 * 16) 4 = x / 16 := by
    simp only [steps]
    rw [show x / 16 * 16 = x / 16 * 8 * 2 by omega, step1_two, show x / 16 * 8 = x / 16 * 4 * 2 by omega, step1_two, show x / 16 * 4 = x / 16 * 2 * 2 by omega, step1_two, step1_two]
  have h2 : ∀ i : Fin 16, steps i.1 4 = tab i.1 := by decide
  rw [h1, h2 ⟨x % 16, Nat.mod_lt _ (by decide)⟩]; rfl
theorem byt_steps (r c : Nat) : byt r c = steps (r ^^^ c) 8 := by
  unfold byt; rw [nib_steps, nib_steps, ← steps_add]
theorem bitsTo_steps (r c k : Nat) : steps (r ^^^ c) k = bitsTo r c k ^^^ c / 2 ^ k := by
  induction k with
  | zero => simp [steps, bitsTo]
  | succ k ih =>
    simp only [steps, bitsTo]
    rw [ih]
    unfold step1 bitStep
    rw [Nat.xor_div_two, Nat.div_div_eq_div_mul, ← Nat.pow_succ]
    split
    · ac_rfl
    · rw [Nat.xor_zero]
theorem bits_byt (r c : Nat) (hc : c < 256) : bitsTo r c 8 = byt r c := by
  rw [byt_steps, bitsTo_steps, show c / 2 ^ 8 = 0 by omega, Nat.xor_zero]
/-- One bit, in the walk's own forms. -/
theorem bit_round (T c b : Nat) (hT : T < 4294967296) (hc : c < 256) :
    ∃ X : Nat, bits .xor .u32 (T : Int) ((c : Int) / 2 ^ b) = (X : Int) ∧ bits .xor .u32 ((T : Int) / 2) 3988292384 = ((T / 2 ^^^ 3988292384 : Nat) : Int) ∧
      bitStep T c b = if X % 2 = 1 then T / 2 ^^^ 3988292384 else T / 2 := by
  refine ⟨T ^^^ c / 2 ^ b, ?_, ?_, rfl⟩
  · have h : ((c : Int) / 2 ^ b) = ((c / 2 ^ b : Nat) : Int) := by rw [Int.natCast_ediv, Int.natCast_pow]; rfl
    have hlt : c / 2 ^ b < 4294967296 := Nat.lt_of_le_of_lt (Nat.div_le_self _ _) (by omega)
    rw [h, u32_xor_nat _ _ hT hlt]
  · rw [show ((T : Int) / 2) = ((T / 2 : Nat) : Int) by omega, show (3988292384 : Int) = ((3988292384 : Nat) : Int) from rfl, u32_xor_nat _ _ (by omega) (by decide)]
def tailTo (n k : Nat) : List UInt8 := (List.range k).map fun j => UInt8.ofNat (n / 256 ^ j)
theorem tailTo_succ (n k : Nat) : tailTo n (k + 1) = tailTo n k ++ [UInt8.ofNat (n / 256 ^ k)] := by simp [tailTo, List.range_succ]
theorem tailTo_length (n k : Nat) : (tailTo n k).length = k := by simp [tailTo]
theorem tailTo_four (n : Nat) : tailTo n 4 = tail4 n := by
  simp [tailTo, tail4, List.range_succ]
theorem good_seal (l : List UInt8) (h : 4 ≤ l.length) : (sealL (l.take (l.length - 4)) == l) = good l := by
  rw [Bool.eq_iff_iff, beq_iff_eq]
  unfold good sealL
  rw [beq_iff_eq]
  constructor
  · intro e
    have := congrArg (List.drop (l.length - 4)) e
    rw [List.drop_left' (by rw [List.length_take]; omega)] at this
    exact this.symm
  · intro e
    rw [← e]; exact List.take_append_drop _ _
end Go.Proofs.YtaepbmcmggnmpaaDoor.M
