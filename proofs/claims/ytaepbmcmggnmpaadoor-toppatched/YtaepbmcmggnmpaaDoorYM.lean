/-
  Plain mathematics of layer 1 (keys): values, their bytes, keys. Nothing of the program is named here.
-/
import Derived.WalkKit
import Derived.Laws.BytesArg
import Derived.Lib.Strings
namespace Go.Proofs.YtaepbmcmggnmpaaDoor.Ky.M
open Go.RowKit
set_option maxRecDepth 100000

/-- Bytes as a string. -/
def bs (l : List UInt8) : ByteArray := ⟨l.toArray⟩
theorem bs_data (l : List UInt8) : (bs l).data.toList = l := rfl
theorem bs_toList (l : List UInt8) : (bs l).toList = l := by rw [ByteArray.toList_eq]; rfl
theorem bs_size (l : List UInt8) : (bs l).size = l.length := by simp [bs, ByteArray.size]
theorem bs_of (s : ByteArray) : bs s.data.toList = s := Lib.mk_data s
theorem bs_append (a b : List UInt8) : bs a ++ bs b = bs (a ++ b) := ByteArray.mk_append_mk a b
theorem str_append (s : ByteArray) (b : List UInt8) : s ++ bs b = bs (s.data.toList ++ b) := by rw [← bs_append, bs_of]
theorem extract_bs (s : ByteArray) (a b : Nat) : s.extract a b = bs ((s.data.toList.drop a).take (b - a)) := Lib.extract_eq s a b
theorem nums_bs (xs : List Int) : strOfNums xs = bs (xs.map fun n => UInt8.ofNat n.toNat) := rfl
theorem ofNat_mod (n : Nat) : UInt8.ofNat (n % 256) = UInt8.ofNat n := by
  apply UInt8.toNat_inj.1; simp
theorem take_snoc (s : ByteArray) (k : Nat) (h : k < s.size) : s.data.toList.take (k + 1) = s.data.toList.take k ++ [s[k]] := by
  rw [List.take_succ_eq_append_getElem (by simpa using h)]; rfl
theorem bs_get (l : List UInt8) (k : Nat) (h : k < (bs l).size) : (bs l)[k] = l[k]'(by rw [← bs_size]; exact h) := rfl

def putL (z n : Nat) : List UInt8 := (List.range z).map fun j => UInt8.ofNat (n / 2 ^ (8 * (z - 1 - j)))
theorem putL_length (z n : Nat) : (putL z n).length = z := by simp [putL]
theorem wrap_i64_nat (n : Nat) (h : n < 9223372036854775808) : IntKind.i64.wrap (n : Int) = (n : Int) := by
  rw [IntKind.wrap_i64]; omega
theorem i64_or_nat (a b : Nat) (ha : a < 9223372036854775808) (hb : b < 9223372036854775808) : bits .or .i64 (a : Int) (b : Int) = ((a ||| b : Nat) : Int) := by
  show IntKind.i64.wrap ((BitVec.ofInt 64 (a : Int) ||| BitVec.ofInt 64 (b : Int)).toNat : Int) = _
  rw [BitVec.toNat_or, ofInt_u64 a (by omega), ofInt_u64 b (by omega)]
  exact wrap_i64_nat _ (Nat.or_lt_two_pow (n := 63) ha hb)
theorem join8 (a c : Nat) (hc : c < 256) : (a * 256) ||| c = a * 256 + c := nat_join 8 _ _ (by omega) (by omega)
def getN (l : List UInt8) : Nat := l.foldl (fun n c => n * 256 + c.toNat) 0
theorem getN_snoc (l : List UInt8) (c : UInt8) : getN (l ++ [c]) = getN l * 256 + c.toNat := by simp [getN, List.foldl_append]
theorem getN_lt (l : List UInt8) : getN l < 256 ^ l.length := by
  suffices ∀ (m : Nat) (l : List UInt8), l.length = m → getN l < 256 ^ l.length from this _ l rfl
  intro m
  induction m with
  | zero => intro l h; rw [List.length_eq_zero_iff.1 h]; decide
  | succ m ih =>
    intro l h
    obtain ⟨l', c, rfl⟩ : ∃ l' c, l = l' ++ [c] := ⟨l.dropLast, l.getLast (by intro e; simp [e] at h), (List.dropLast_concat_getLast _).symm⟩
    have := ih l' (by simpa using h)
    have hc := c.toNat_lt
    rw [getN_snoc, List.length_append]
    simp only [List.length_cons, List.length_nil, Nat.pow_add, Nat.zero_add, Nat.pow_one]
    omega

/-- A value: a text, a number, and whether the text counts. -/
abbrev V := List UInt8 × Int × Bool
/-- Why it is none; 0: it is one. -/
def chk (v : V) : Nat := if v.2.2 = true then (if 20 < v.1.length then 6 else if v.2.1 ≠ 0 then 1 else 0) else (if v.1 ≠ [] ∨ v.2.1 < -1099511627776 ∨ 1099511627776 < v.2.1 then 1 else 0)
/-- A text's bytes within a key. -/
def esc : List UInt8 → List UInt8
  | [] => []
  | c :: l => if c = 0 then 0 :: 255 :: esc l else c :: esc l
def one (v : V) : List UInt8 := if v.2.2 = true then 32 :: (esc v.1 ++ [0, 1]) else 16 :: putL 6 (v.2.1 + 1099511627776).toNat
def keyOf (L : List V) : List UInt8 := L.flatMap one
def errOf : List V → Nat
  | [] => 0
  | v :: L => if chk v = 0 then errOf L else chk v
def put (L : List V) : List UInt8 × Nat := if errOf L = 0 then (keyOf L, 0) else ([], errOf L)
theorem esc_append (a b : List UInt8) : esc (a ++ b) = esc a ++ esc b := by
  induction a with
  | nil => rfl
  | cons c a ih => simp only [List.cons_append, esc, ih]; split <;> rfl
theorem esc_length (l : List UInt8) : (esc l).length ≤ 2 * l.length := by
  induction l with
  | nil => simp [esc]
  | cons c l ih => simp only [esc]; split <;> simp <;> omega
theorem keyOf_snoc (L : List V) (v : V) : keyOf (L ++ [v]) = keyOf L ++ one v := by simp [keyOf]
theorem errOf_append (A B : List V) (h : errOf A = 0) : errOf (A ++ B) = errOf B := by
  induction A with
  | nil => rfl
  | cons v A ih =>
    simp only [errOf] at h
    split at h
    · rename_i h0; simp only [List.cons_append, errOf, if_pos h0]; exact ih h
    · rename_i h0; exact absurd h h0
theorem chk_le (v : V) : chk v ≤ 6 := by unfold chk; split <;> split <;> (try split) <;> omega
theorem errOf_snoc (A : List V) (v : V) (h : errOf A = 0) : errOf (A ++ [v]) = chk v := by
  rw [errOf_append A [v] h]; simp only [errOf]; split <;> omega
theorem one_length (v : V) (h : chk v = 0) : (one v).length ≤ 43 := by
  unfold chk at h
  unfold one
  split
  · rename_i hb
    rw [if_pos hb] at h
    have := esc_length v.1
    split at h
    · omega
    · simp; omega
  · simp [putL_length]
theorem keyOf_length : ∀ (L : List V), errOf L = 0 → (keyOf L).length ≤ 43 * L.length
  | [], _ => by simp [keyOf]
  | v :: L, h => by
    simp only [errOf] at h
    split at h
    · rename_i h0
      have := one_length v h0
      have := keyOf_length L h
      simp only [keyOf, List.flatMap_cons, List.length_append, List.length_cons] at *
      omega
    · rename_i h0; exact absurd h h0
theorem chk_number {t : List UInt8} {n : Int} (h : chk (t, n, false) = 0) : -1099511627776 ≤ n ∧ n ≤ 1099511627776 := by
  unfold chk at h
  rw [if_neg (by simp)] at h
  split at h
  · omega
  · rename_i hn; simp only [not_or] at hn; omega
theorem chk_text {t : List UInt8} {n : Int} (h : chk (t, n, true) = 0) : t.length ≤ 20 := by
  unfold chk at h
  rw [if_pos rfl] at h
  simp only at h
  split at h
  · omega
  · omega
/-- The value of a number's bytes: the value, how many bytes it takes, the error's number. -/
abbrev zeroV : V := ([], 0, false)
def firstNum (l : List UInt8) : V × Nat × Nat :=
  if l.length < 7 then (zeroV, 0, 3) else if 2199023255552 < getN ((l.drop 1).take 6) then (zeroV, 0, 2) else (([], (getN ((l.drop 1).take 6) : Int) - 1099511627776, false), 7, 0)
/-- A text's bytes from place i on, what was read so far in acc. -/
def scan : List UInt8 → List UInt8 → Nat → V × Nat × Nat
  | [], _, _ => (zeroV, 0, 3)
  | [c], acc, i => if c = 0 then (zeroV, 0, 3) else scan [] (acc ++ [c]) (i + 1)
  | c :: d :: l, acc, i =>
    if c = 0 then (if d = 255 then scan l (acc ++ [0]) (i + 2) else if d = 1 then (if 20 < acc.length then (zeroV, 0, 6) else ((acc, 0, true), i + 2, 0)) else (zeroV, 0, 2))
    else scan (d :: l) (acc ++ [c]) (i + 1)
def firstV (l : List UInt8) : V × Nat × Nat :=
  match l with
  | [] => (zeroV, 0, 2)
  | c :: r => if c = 16 then firstNum (c :: r) else if c = 32 then scan r [] 1 else (zeroV, 0, 2)
def getF : Nat → List UInt8 → List V → List V × Nat
  | 0, _, acc => (acc, 0)
  | n + 1, l, acc => if l = [] then (acc, 0) else if (firstV l).2.2 = 0 then getF n (l.drop (firstV l).2.1) (acc ++ [(firstV l).1]) else ([], (firstV l).2.2)
def get (l : List UInt8) : List V × Nat := getF l.length l []
theorem scan_ne (c : UInt8) (l acc : List UInt8) (i : Nat) (h : c ≠ 0) : scan (c :: l) acc i = scan l (acc ++ [c]) (i + 1) := by
  cases l with
  | nil => simp [scan, h]
  | cons d l => simp [scan, h]
theorem scan_end (acc : List UInt8) (i : Nat) : scan [0] acc i = (zeroV, 0, 3) := by simp [scan]
theorem scan_zero (d : UInt8) (l acc : List UInt8) (i : Nat) : scan (0 :: d :: l) acc i =
    if d = 255 then scan l (acc ++ [0]) (i + 2) else if d = 1 then (if 20 < acc.length then (zeroV, 0, 6) else ((acc, 0, true), i + 2, 0)) else (zeroV, 0, 2) := by
  conv => lhs; unfold scan
  rw [if_pos rfl]
theorem drop_at (s : ByteArray) (k : Nat) (h : k < s.size) : s.data.toList.drop k = s[k] :: s.data.toList.drop (k + 1) := by
  rw [List.drop_eq_getElem_cons (by rw [← Lib.size_eq]; exact h)]; rfl
theorem scan_used : ∀ (m : Nat) (l acc : List UInt8) (i : Nat), l.length ≤ m → (scan l acc i).2.2 = 0 → i < (scan l acc i).2.1 ∧ (scan l acc i).2.1 ≤ i + l.length := by
  intro m
  induction m with
  | zero => intro l acc i h e; rw [List.length_eq_zero_iff.1 (by omega : l.length = 0)] at e; simp [scan] at e
  | succ m ih =>
    intro l acc i h e
    match l, h, e with
    | [], _, e => simp [scan] at e
    | [c], _, e =>
      by_cases hc : c = 0
      · subst hc; simp [scan] at e
      · simp [scan, hc] at e
    | c :: d :: l, h, e =>
      by_cases hc : c = 0
      · subst hc
        rw [scan_zero] at e ⊢
        split at e
        · rename_i hd
          rw [if_pos hd]
          have := ih l (acc ++ [0]) (i + 2) (by simp at h; omega) e
          simp only [List.length_cons]; omega
        · rename_i hd
          rw [if_neg hd]
          split at e
          · rename_i hd1
            rw [if_pos hd1]
            split at e
            · simp at e
            · rename_i h20
              rw [if_neg h20]
              simp only [List.length_cons]; omega
          · simp at e
      · rw [scan_ne _ _ _ _ hc] at e ⊢
        have := ih (d :: l) (acc ++ [c]) (i + 1) (by simp at h ⊢; omega) e
        simp only [List.length_cons] at *; omega
theorem firstV_used (l : List UInt8) (e : (firstV l).2.2 = 0) : 0 < (firstV l).2.1 ∧ (firstV l).2.1 ≤ l.length := by
  cases l with
  | nil => simp [firstV] at e
  | cons c r =>
    simp only [firstV] at e ⊢
    split at e
    · rename_i hc
      rw [if_pos hc]
      unfold firstNum at e ⊢
      split at e
      · simp at e
      · rename_i h7
        rw [if_neg h7]
        split at e
        · simp at e
        · rename_i hb; rw [if_neg hb]; simp only; omega
    · rename_i hc
      rw [if_neg hc]
      split at e
      · rename_i h32
        rw [if_pos h32]
        have := scan_used r.length r [] 1 (Nat.le_refl _) e
        simp only [List.length_cons]; omega
      · simp at e
theorem getF_fuel : ∀ (n m : Nat) (l : List UInt8) (acc : List V), l.length ≤ n → l.length ≤ m → getF n l acc = getF m l acc := by
  intro n
  induction n with
  | zero =>
    intro m l acc h1 h2
    rw [List.length_eq_zero_iff.1 (by omega : l.length = 0)]
    cases m <;> simp [getF]
  | succ n ih =>
    intro m l acc h1 h2
    cases m with
    | zero => rw [List.length_eq_zero_iff.1 (by omega : l.length = 0)]; simp [getF]
    | succ m =>
      simp only [getF]
      by_cases hl : l = []
      · rw [if_pos hl, if_pos hl]
      · rw [if_neg hl, if_neg hl]
        by_cases he : (firstV l).2.2 = 0
        · rw [if_pos he, if_pos he]
          have := firstV_used l he
          apply ih
          · rw [List.length_drop]; omega
          · rw [List.length_drop]; omega
        · rw [if_neg he, if_neg he]
theorem getF_step (l : List UInt8) (acc : List V) (hl : l ≠ []) (he : (firstV l).2.2 = 0) : getF l.length l acc = getF (l.drop (firstV l).2.1).length (l.drop (firstV l).2.1) (acc ++ [(firstV l).1]) := by
  have hu := firstV_used l he
  have hn : l.length = (l.length - 1) + 1 := by
    have : l.length ≠ 0 := fun h => hl (List.length_eq_zero_iff.1 h)
    omega
  rw [hn]
  simp only [getF]
  rw [if_neg hl, if_pos he]
  exact getF_fuel _ _ _ _ (by rw [List.length_drop]; omega) (Nat.le_refl _)
theorem getF_stop (l : List UInt8) (acc : List V) (hl : l ≠ []) (he : (firstV l).2.2 ≠ 0) : getF l.length l acc = ([], (firstV l).2.2) := by
  have hn : l.length = (l.length - 1) + 1 := by
    have : l.length ≠ 0 := fun h => hl (List.length_eq_zero_iff.1 h)
    omega
  rw [hn]
  simp only [getF]
  rw [if_neg hl, if_neg he]
end Go.Proofs.YtaepbmcmggnmpaaDoor.Ky.M
