/-
  Plain mathematics of spoilt bytes: a burst of at most four bytes is always told by the sum. Nothing of the program is named here.
-/
import Derived.Test.YtfiopegkopfceaaDoorN
namespace Go.Proofs.YtfiopegkopfceaaDoor.M
open Go.RowKit

theorem xor_eq0 {a b : Nat} (e : a ^^^ b = 0) : a = b := by
  have h : (a ^^^ b) ^^^ b = 0 ^^^ b := by rw [e]
  rwa [Nat.xor_assoc, Nat.xor_self, Nat.xor_zero, Nat.zero_xor] at h
theorem step1_zero {x : Nat} (h : x < 4294967296) (e : step1 x = 0) : x = 0 := by
  unfold step1 at e
  split at e
  · have : x / 2 = 3988292384 := xor_eq0 e
    omega
  · rw [Nat.xor_zero] at e; omega
theorem steps_zero {x : Nat} (h : x < 4294967296) (k : Nat) (e : steps x k = 0) : x = 0 := by
  induction k with
  | zero => exact e
  | succ k ih => exact ih (step1_zero (steps_lt h k) e)
theorem steps_of_zero (k : Nat) : steps 0 k = 0 := by
  induction k with
  | zero => rfl
  | succ k ih => simp only [steps, ih]; rfl
theorem steps_inj {x y : Nat} (hx : x < 4294967296) (hy : y < 4294967296) (k : Nat) (e : steps x k = steps y k) : x = y := by
  have : steps (x ^^^ y) k = 0 := by rw [steps_xor, e, Nat.xor_self]
  exact xor_eq0 (steps_zero (xor_lt32 hx hy) k this)
theorem steps_256 (c : Nat) : steps (c * 256) 8 = c := by
  simp only [steps]
  rw [show c * 256 = c * 128 * 2 by omega, step1_two, show c * 128 = c * 64 * 2 by omega, step1_two, show c * 64 = c * 32 * 2 by omega, step1_two, show c * 32 = c * 16 * 2 by omega, step1_two,
    show c * 16 = c * 8 * 2 by omega, step1_two, show c * 8 = c * 4 * 2 by omega, step1_two, show c * 4 = c * 2 * 2 by omega, step1_two, step1_two]
theorem steps_pow (c p : Nat) : steps (c * 256 ^ p) (8 * p) = c := by
  induction p with
  | zero => simp [steps]
  | succ p ih =>
    rw [Nat.pow_succ, ← Nat.mul_assoc, show 8 * (p + 1) = 8 + 8 * p by omega, steps_add, steps_256, ih]
/-- The bytes as one number, the lowest first. -/
def leX : List UInt8 → Nat
  | [] => 0
  | c :: l => c.toNat ^^^ (leX l * 256)
theorem regs_steps : ∀ (l : List UInt8) (r : Nat), regs l r = steps (r ^^^ leX l) (8 * l.length)
  | [], r => by simp [regs, leX, steps]
  | c :: l, r => by
    show regs l (byt r c.toNat) = _
    rw [regs_steps l, byt_steps, leX, List.length_cons, show 8 * (l.length + 1) = 8 + 8 * l.length by omega, steps_add, ← Nat.xor_assoc, steps_xor (r ^^^ c.toNat), steps_256]
theorem xor_mul {P x y : Nat} (k : Nat) (hP : P = 2 ^ k) : (x ^^^ y) * P = (x * P) ^^^ (y * P) := by
  subst hP
  apply Nat.eq_of_testBit_eq
  intro i
  rw [Nat.testBit_xor, Nat.testBit_mul_two_pow, Nat.testBit_mul_two_pow, Nat.testBit_mul_two_pow, Nat.testBit_xor]
  cases decide (i ≥ k) <;> simp
theorem xor_add256 (c m : Nat) (h : c < 256) : c ^^^ (m * 256) = c + m * 256 := by
  have h1 : (m * 256) / 256 * 256 = m * 256 := by omega
  apply Nat.eq_of_testBit_eq
  intro i
  rw [Nat.testBit_xor, show m * 256 = m * 2 ^ 8 from rfl, Nat.testBit_mul_two_pow, Nat.add_comm, Nat.mul_comm]
  rw [Nat.testBit_two_pow_mul_add _ h]
  by_cases hi : i < 8
  · simp [hi, show ¬ 8 ≤ i by omega]
  · simp [hi, show 8 ≤ i by omega]
    rw [Nat.testBit_lt_two_pow (Nat.lt_of_lt_of_le (show c < 2 ^ 8 from h) (Nat.pow_le_pow_right (by decide) (by omega)))]
    simp
theorem leX_set : ∀ (l : List UInt8) (i x : Nat) (hi : i < l.length) (_ : x < 256), leX (l.set i (UInt8.ofNat (l[i].toNat ^^^ x))) = leX l ^^^ (x * 256 ^ i)
  | c :: l, 0, x, _, hx => by
    have h : (UInt8.ofNat (c.toNat ^^^ x)).toNat = c.toNat ^^^ x := by
      rw [UInt8.toNat_ofNat']
      exact Nat.mod_eq_of_lt (Nat.xor_lt_two_pow (n := 8) c.toNat_lt hx)
    simp only [List.set_cons_zero, leX, List.getElem_cons_zero, h, Nat.pow_zero, Nat.mul_one]
    ac_rfl
  | c :: l, i + 1, x, hi, hx => by
    simp only [List.set_cons_succ, leX, List.getElem_cons_succ]
    rw [leX_set l i x (by simpa using hi) hx, xor_mul 8 rfl, Nat.mul_assoc, ← Nat.pow_succ]
    ac_rfl
theorem leX_four (a b c d : UInt8) : leX [a, b, c, d] = a.toNat + 256 * b.toNat + 65536 * c.toNat + 16777216 * d.toNat := by
  have ha := a.toNat_lt
  have hb := b.toNat_lt
  have hc := c.toNat_lt
  have hd := d.toNat_lt
  simp only [leX, Nat.zero_mul, Nat.xor_zero]
  rw [xor_add256 c.toNat _ (by omega), xor_add256 b.toNat _ (by omega), xor_add256 a.toNat _ (by omega)]
  omega
theorem tail4_leX (n : Nat) (h : n < 4294967296) : leX (tail4 n) = n := by
  unfold tail4
  rw [leX_four]
  simp only [UInt8.toNat_ofNat', Nat.reducePow]
  omega
theorem leX_tail4 (t : List UInt8) (h : t.length = 4) : tail4 (leX t) = t := by
  obtain ⟨a, b, c, d, rfl⟩ : ∃ a b c d, t = [a, b, c, d] := by
    match t, h with
    | [a, b, c, d], _ => exact ⟨a, b, c, d, rfl⟩
  have ha := a.toNat_lt
  have hb := b.toNat_lt
  have hc := c.toNat_lt
  have hd := d.toNat_lt
  rw [leX_four]
  unfold tail4
  have key : ∀ (x : UInt8) (n : Nat), n % 256 = x.toNat → UInt8.ofNat n = x := by
    intro x n hn
    apply UInt8.toNat_inj.1
    rw [UInt8.toNat_ofNat']; exact hn
  rw [key a _ (by omega), key b _ (by omega), key c _ (by omega), key d _ (by omega)]
theorem leX_lt4 (t : List UInt8) (h : t.length = 4) : leX t < 4294967296 := by
  obtain ⟨a, b, c, d, rfl⟩ : ∃ a b c d, t = [a, b, c, d] := by
    match t, h with
    | [a, b, c, d], _ => exact ⟨a, b, c, d, rfl⟩
  have ha := a.toNat_lt
  have hb := b.toNat_lt
  have hc := c.toNat_lt
  have hd := d.toNat_lt
  rw [leX_four]; omega
theorem xor_ones (R : Nat) (hR : R < 4294967296) : 4294967295 ^^^ R = 4294967295 - R := by
  have h := BitVec.toNat_not (x := BitVec.ofNat 32 R)
  rw [BitVec.not_def] at h
  simp only [BitVec.toNat_xor, BitVec.toNat_allOnes, BitVec.toNat_ofNat] at h
  rw [Nat.mod_eq_of_lt (by omega)] at h
  omega
/-- What is sealed leaves one and the same register. -/
theorem good_iff (b : List UInt8) (h : 4 ≤ b.length) : good b = true ↔ regs b 4294967295 = steps 4294967295 32 := by
  unfold good
  rw [beq_iff_eq]
  have e : regs b 4294967295 = regs (b.drop (b.length - 4)) (crc (b.take (b.length - 4))) := by
    conv => lhs; rw [← List.take_append_drop (b.length - 4) b]
    simp only [regs, List.foldl_append, crc]
  have hl : (b.drop (b.length - 4)).length = 4 := by rw [List.length_drop]; omega
  have hR := crc_lt (b.take (b.length - 4))
  rw [e, regs_steps, hl]
  unfold sum
  generalize b.drop (b.length - 4) = t at *
  generalize crc (b.take (b.length - 4)) = R at *
  have ht := leX_lt4 t hl
  constructor
  · intro ht
    rw [ht, tail4_leX _ (by omega), ← xor_ones R hR]
    rw [Nat.xor_comm 4294967295 R, ← Nat.xor_assoc, Nat.xor_self, Nat.zero_xor]
  · intro hs
    have h1 := steps_inj (xor_lt32 hR ht) (by decide) _ hs
    have h2 : leX t = 4294967295 - R := by
      rw [← xor_ones R hR, ← h1, Nat.xor_comm R, Nat.xor_assoc, Nat.xor_self, Nat.xor_zero]
    rw [← h2, leX_tail4 t hl]
def byByte (y j : Nat) : Nat := y / 2 ^ (8 * j) % 256
def spoilTo (l : List UInt8) (p y : Nat) : Nat → List UInt8
  | 0 => l
  | k + 1 => (spoilTo l p y k).set (p + k) (UInt8.ofNat (((spoilTo l p y k).getD (p + k) 0).toNat ^^^ byByte y k))
def chTo (y : Nat) : Nat → Bool
  | 0 => false
  | k + 1 => chTo y k || byByte y k != 0
def burst (y : Nat) : Nat → Nat
  | 0 => 0
  | k + 1 => burst y k ^^^ (byByte y k * 256 ^ k)
theorem spoilTo_length (l : List UInt8) (p y k : Nat) : (spoilTo l p y k).length = l.length := by
  induction k with
  | zero => rfl
  | succ k ih => simp [spoilTo, ih]
theorem burst_lt (y k : Nat) : burst y k < 256 ^ k := by
  induction k with
  | zero => simp [burst]
  | succ k ih =>
    have hx : byByte y k < 256 := Nat.mod_lt _ (by decide)
    have e : (256 : Nat) ^ (k + 1) = 2 ^ (8 * (k + 1)) := by rw [Nat.pow_mul]
    simp only [burst]
    rw [e]
    apply Nat.xor_lt_two_pow
    · exact Nat.lt_of_lt_of_le ih (by rw [← e]; exact Nat.pow_le_pow_right (by decide) (by omega))
    · rw [← e, Nat.pow_succ, Nat.mul_comm]; exact (Nat.mul_lt_mul_left (Nat.pow_pos (by decide))).2 hx
theorem burst_zero (y k : Nat) : burst y k = 0 ↔ chTo y k = false := by
  induction k with
  | zero => simp [burst, chTo]
  | succ k ih =>
    have hb := burst_lt y k
    simp only [burst, chTo, Bool.or_eq_false_iff, bne_eq_false_iff_eq, ← ih]
    constructor
    · intro e
      have e1 : burst y k = byByte y k * 256 ^ k := xor_eq0 e
      have h0 : byByte y k = 0 := by
        rcases Nat.eq_zero_or_pos (byByte y k) with h | h
        · exact h
        · have := Nat.mul_le_mul_right (256 ^ k) h
          omega
      rw [h0] at e1
      exact ⟨by omega, h0⟩
    · rintro ⟨h1, h2⟩; rw [h1, h2]; simp
theorem leX_spoil (l : List UInt8) (p y k : Nat) (h : p + k ≤ l.length) : leX (spoilTo l p y k) = leX l ^^^ (burst y k * 256 ^ p) := by
  induction k with
  | zero => simp [spoilTo, burst]
  | succ k ih =>
    have hx : byByte y k < 256 := Nat.mod_lt _ (by decide)
    have hlen : p + k < (spoilTo l p y k).length := by rw [spoilTo_length]; omega
    simp only [spoilTo, burst]
    rw [List.getD_eq_getElem?_getD, List.getElem?_eq_getElem hlen, Option.getD_some, leX_set _ _ _ hlen hx, ih (by omega)]
    rw [xor_mul (8 * p) (by rw [Nat.pow_mul]), Nat.mul_assoc, ← Nat.pow_add, Nat.add_comm k p, Nat.xor_assoc]
/-- Where every byte is put by nothing the text stays. -/
theorem spoil_same (l : List UInt8) (p y k : Nat) (h : p + k ≤ l.length) (hc : chTo y k = false) : spoilTo l p y k = l := by
  induction k with
  | zero => rfl
  | succ k ih =>
    simp only [chTo, Bool.or_eq_false_iff, bne_eq_false_iff_eq] at hc
    have hi : p + k < l.length := by omega
    simp only [spoilTo, ih (by omega) hc.1, hc.2, Nat.xor_zero]
    rw [List.getD_eq_getElem?_getD, List.getElem?_eq_getElem hi, Option.getD_some, UInt8.ofNat_toNat, List.set_getElem_self]
theorem spoil_good (l : List UInt8) (p y k : Nat) (h : p + k ≤ (sealL l).length) (hk : k ≤ 4) : good (spoilTo (sealL l) p y k) = !chTo y k := by
  have h4 : 4 ≤ (sealL l).length := by rw [sealL_length]; omega
  have hg := (good_iff (sealL l) h4).1 (sealL_good l)
  rw [Bool.eq_iff_iff, good_iff _ (by rw [spoilTo_length]; exact h4), Bool.not_eq_true', ← burst_zero, regs_steps, leX_spoil _ _ _ _ h, spoilTo_length, ← Nat.xor_assoc, steps_xor, ← regs_steps, hg]
  have hb : burst y k < 4294967296 := Nat.lt_of_lt_of_le (burst_lt y k) (show 256 ^ k ≤ 256 ^ 4 from Nat.pow_le_pow_right (by decide) hk)
  have e : steps (burst y k * 256 ^ p) (8 * (sealL l).length) = steps (burst y k) (8 * ((sealL l).length - p)) := by
    rw [show 8 * (sealL l).length = 8 * p + 8 * ((sealL l).length - p) by omega, steps_add, steps_pow]
  rw [e]
  constructor
  · intro h1
    have h2 : steps (burst y k) (8 * ((sealL l).length - p)) = 0 := by
      have := congrArg (fun z => steps 4294967295 32 ^^^ z) h1
      simpa [← Nat.xor_assoc] using this
    exact steps_zero hb _ h2
  · intro h0; rw [h0, steps_of_zero, Nat.xor_zero]
end Go.Proofs.YtfiopegkopfceaaDoor.M
