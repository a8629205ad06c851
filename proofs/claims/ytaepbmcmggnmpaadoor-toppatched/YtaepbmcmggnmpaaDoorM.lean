/-
  Plain mathematics of the sum (CRC-32) and of numbers in bytes: nothing of the program is named here.
-/
import Derived.WalkKit
import Derived.Laws.BytesArg
import Derived.Lib.Strings
namespace Go.Proofs.YtaepbmcmggnmpaaDoor.M
open Go.RowKit

/-- The table of sixteen. -/
def tab (j : Nat) : Nat := [0, 498536548, 997073096, 651767980, 1994146192, 1802195444, 1303535960, 1342533948, 3988292384, 4027552580, 3604390888, 3412177804, 2607071920, 2262029012, 2685067896, 3183342108].getD j 0
theorem tab_lt (j : Nat) : tab j < 4294967296 := by
  by_cases h : j < 16
  · have : ∀ i : Fin 16, tab i.1 < 4294967296 := by decide
    exact this ⟨j, h⟩
  · unfold tab; rw [List.getD_eq_getElem?_getD, List.getElem?_eq_none (by simp; omega)]; decide
/-- One step by four bits. -/
def nib (r : Nat) : Nat := r / 16 ^^^ tab (r % 16)
/-- One byte. -/
def byt (r c : Nat) : Nat := nib (nib (r ^^^ c))
def regs (l : List UInt8) (r : Nat) : Nat := l.foldl (fun r c => byt r c.toNat) r
def crc (l : List UInt8) : Nat := regs l 4294967295
theorem xor_lt32 {a b : Nat} (ha : a < 4294967296) (hb : b < 4294967296) : a ^^^ b < 4294967296 := Nat.xor_lt_two_pow (n := 32) ha hb
theorem nib_lt {r : Nat} (h : r < 4294967296) : nib r < 4294967296 := xor_lt32 (by omega) (tab_lt _)
theorem byt_lt {r c : Nat} (h : r < 4294967296) (hc : c < 256) : byt r c < 4294967296 := nib_lt (nib_lt (xor_lt32 h (by omega)))
theorem regs_lt (l : List UInt8) : ∀ {r : Nat}, r < 4294967296 → regs l r < 4294967296 := by
  induction l with
  | nil => intro r h; exact h
  | cons c l ih => intro r h; exact ih (byt_lt h (by have := c.toNat_lt; omega))
theorem crc_lt (l : List UInt8) : crc l < 4294967296 := regs_lt l (by decide)
theorem crc_snoc (l : List UInt8) (c : UInt8) : crc (l ++ [c]) = byt (crc l) c.toNat := by simp [crc, regs, List.foldl_append]
theorem take_snoc (s : ByteArray) (k : Nat) (h : k < s.size) : s.data.toList.take (k + 1) = s.data.toList.take k ++ [s[k]] := by
  rw [List.take_succ_eq_append_getElem (by simpa using h)]; rfl
/-- Bytes as a string. -/
def bs (l : List UInt8) : ByteArray := ⟨l.toArray⟩
theorem bs_data (l : List UInt8) : (bs l).data.toList = l := rfl
theorem bs_toList (l : List UInt8) : (bs l).toList = l := by rw [ByteArray.toList_eq]; rfl
theorem bs_size (l : List UInt8) : (bs l).size = l.length := by simp [bs, ByteArray.size]
theorem bs_of (s : ByteArray) : bs s.data.toList = s := Lib.mk_data s
theorem bs_append (a b : List UInt8) : bs a ++ bs b = bs (a ++ b) := ByteArray.mk_append_mk a b
theorem str_append (s : ByteArray) (b : List UInt8) : s ++ bs b = bs (s.data.toList ++ b) := by rw [← bs_append, bs_of]
theorem extract_bs (s : ByteArray) (a b : Nat) : s.extract a b = bs ((s.data.toList.drop a).take (b - a)) := Lib.extract_eq s a b
theorem nums_bs (xs : List Int) : strOfNums xs = bs (xs.map fun n => UInt8.ofNat n.toNat) := rfl
def sum (l : List UInt8) : Nat := 4294967295 - crc l
def tail4 (n : Nat) : List UInt8 := [UInt8.ofNat n, UInt8.ofNat (n / 256), UInt8.ofNat (n / 65536), UInt8.ofNat (n / 16777216)]
def sealL (l : List UInt8) : List UInt8 := l ++ tail4 (sum l)
theorem sum_lt (l : List UInt8) : sum l < 4294967296 := by unfold sum; omega
theorem ofNat_mod (n : Nat) : UInt8.ofNat (n % 256) = UInt8.ofNat n := by
  apply UInt8.toNat_inj.1; simp
theorem nums4 (n : Nat) (h : n < 4294967296) : strOfNums [(n : Int) % 256, (n : Int) / 256 % 256, (n : Int) / 65536 % 256, (n : Int) / 16777216] = bs (tail4 n) := by
  rw [nums_bs]
  simp only [List.map_cons, List.map_nil, tail4]
  rw [show ((n : Int) % 256).toNat = n % 256 by omega, show ((n : Int) / 256 % 256).toNat = n / 256 % 256 by omega, show ((n : Int) / 65536 % 256).toNat = n / 65536 % 256 by omega, show ((n : Int) / 16777216).toNat = n / 16777216 by omega, ofNat_mod, ofNat_mod, ofNat_mod]
theorem sealL_length (l : List UInt8) : (sealL l).length = l.length + 4 := by simp [sealL, tail4]
def good (l : List UInt8) : Bool := l.drop (l.length - 4) == tail4 (sum (l.take (l.length - 4)))
def openL (l : List UInt8) : List UInt8 × Nat := if l.length < 4 then ([], 3) else if good l = true then (l.take (l.length - 4), 0) else ([], 5)
/-- The cells of 'Put', behind k rounds. -/
def putC (z n : Nat) : Nat → Array Value
  | 0 => madeCells #[.int .u8 0] z
  | k + 1 => (putC z n k).setIfInBounds (z - 1 - k) (.int .u8 ((n / 2 ^ (8 * k) % 256 : Nat) : Int))
theorem putC_step (z n k : Nat) : (putC z n k).setIfInBounds (z - 1 - k) (.int .u8 ((n : Int) / 2 ^ (8 * k) % 256)) = putC z n (k + 1) := by
  simp only [putC]
  rw [Int.natCast_emod, Int.natCast_ediv, Int.natCast_pow]; rfl
theorem putC_size (z n k : Nat) : (putC z n k).size = z := by
  induction k with
  | zero => exact size_madeCells _ _
  | succ k ih => simp [putC, ih]
theorem putC_at (z n k j : Nat) (hk : k ≤ z) (hj : j < z) (h : z - k ≤ j) : (putC z n k)[j]? = some (.int .u8 ((n / 2 ^ (8 * (z - 1 - j)) % 256 : Nat) : Int)) := by
  induction k with
  | zero => omega
  | succ k ih =>
    simp only [putC]
    by_cases e : z - 1 - k = j
    · subst e
      rw [Array.getElem?_setIfInBounds_self_of_lt (by rw [putC_size]; omega)]
      rw [show z - 1 - (z - 1 - k) = k by omega]
    · rw [Array.getElem?_setIfInBounds_ne e]
      exact ih (by omega) (by omega)
theorem putC_some (z n k j : Nat) (hj : j < z) : ∃ v, (putC z n k)[j]? = some v := ⟨(putC z n k)[j]'(by rw [putC_size]; exact hj), Array.getElem?_eq_getElem _⟩
def putL (z n : Nat) : List UInt8 := (List.range z).map fun j => UInt8.ofNat (n / 2 ^ (8 * (z - 1 - j)))
theorem putL_length (z n : Nat) : (putL z n).length = z := by simp [putL]
def put (n size : Int) : List UInt8 := if 1 ≤ size ∧ size ≤ 7 ∧ 0 ≤ n ∧ n.toNat / 2 ^ (8 * size.toNat) = 0 then putL size.toNat n.toNat else []
theorem putL_nums (z n : Nat) : strOfNums ((List.range z).map fun j => ((n / 2 ^ (8 * (z - 1 - j)) % 256 : Nat) : Int)) = bs (putL z n) := by
  rw [nums_bs, List.map_map]
  congr 1
  apply List.map_congr_left
  intro j _
  simp only [Function.comp, Int.toNat_natCast]
  exact ofNat_mod _
theorem wrap_i64_nat (n : Nat) (h : n < 9223372036854775808) : IntKind.i64.wrap (n : Int) = (n : Int) := by
  rw [IntKind.wrap_i64]; omega
theorem i64_or_nat (a b : Nat) (ha : a < 9223372036854775808) (hb : b < 9223372036854775808) : bits .or .i64 (a : Int) (b : Int) = ((a ||| b : Nat) : Int) := by
  show IntKind.i64.wrap ((BitVec.ofInt 64 (a : Int) ||| BitVec.ofInt 64 (b : Int)).toNat : Int) = _
  rw [BitVec.toNat_or, ofInt_u64 a (by omega), ofInt_u64 b (by omega)]
  exact wrap_i64_nat _ (Nat.or_lt_two_pow (n := 63) ha hb)
theorem join8 (a c : Nat) (hc : c < 256) : (a * 256) ||| c = a * 256 + c := nat_join 8 _ _ (by omega) (by omega)
def getN (l : List UInt8) : Nat := l.foldl (fun n c => n * 256 + c.toNat) 0
theorem getN_snoc (l : List UInt8) (c : UInt8) : getN (l ++ [c]) = getN l * 256 + c.toNat := by simp [getN, List.foldl_append]
theorem getN_lt (l : List UInt8) : getN l < 256 ^ l.length := by
  suffices ∀ (m : Nat) (l : List UInt8), l.length = m → getN l < 256 ^ l.length from this _ l rfl
  intro m
  induction m with
  | zero => intro l h; rw [List.length_eq_zero_iff.1 h]; decide
  | succ m ih =>
    intro l h
    obtain ⟨l', c, rfl⟩ : ∃ l' c, l = l' ++ [c] := ⟨l.dropLast, l.getLast (by intro e; simp [e] at h), (List.dropLast_concat_getLast _).symm⟩
    have := ih l' (by simpa using h)
    have hc := c.toNat_lt
    rw [getN_snoc, List.length_append]
    simp only [List.length_cons, List.length_nil, Nat.pow_add, Nat.zero_add, Nat.pow_one]
    omega
def get (l : List UInt8) : Nat := if l.length ≤ 7 then getN l else 0
end Go.Proofs.YtaepbmcmggnmpaaDoor.M
