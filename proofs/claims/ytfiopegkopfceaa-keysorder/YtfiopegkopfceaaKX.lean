/-
  Plain mathematics: keys are ordered as their values are.
-/
import Derived.Test.YtfiopegkopfceaaKN
import Derived.Test.YtfiopegkopfceaaKC
namespace Go.Proofs.Ytfiopegkopfceaa
open Go.RowKit

theorem cb_cons (c : UInt8) (x y : List UInt8) : Lib.compareBytes (c :: x) (c :: y) = Lib.compareBytes x y := by
  rw [Lib.compareBytes, if_neg (by rw [UInt8.lt_iff_toNat_lt]; omega)]
  rw [if_neg (by rw [UInt8.lt_iff_toNat_lt]; omega)]
theorem cb_lt (c d : UInt8) (x y : List UInt8) (h : c.toNat < d.toNat) : Lib.compareBytes (c :: x) (d :: y) = -1 := by
  rw [Lib.compareBytes, if_pos (UInt8.lt_iff_toNat_lt.2 h)]
theorem cb_gt (c d : UInt8) (x y : List UInt8) (h : d.toNat < c.toNat) : Lib.compareBytes (c :: x) (d :: y) = 1 := by
  rw [Lib.compareBytes, if_neg (by rw [UInt8.lt_iff_toNat_lt]; omega), if_pos (UInt8.lt_iff_toNat_lt.2 h)]
theorem cb_app (p x y : List UInt8) : Lib.compareBytes (p ++ x) (p ++ y) = Lib.compareBytes x y := by
  induction p with
  | nil => rfl
  | cons c p ih => rw [List.cons_append, List.cons_append, cb_cons, ih]
theorem cb_nil (l : List UInt8) (h : 0 < l.length) : Lib.compareBytes [] l = -1 := by
  cases l with
  | nil => simp at h
  | cons c l => rfl
theorem cb_nil' (l : List UInt8) (h : 0 < l.length) : Lib.compareBytes l [] = 1 := by
  cases l with
  | nil => simp at h
  | cons c l => rfl
/-- Bytes of one length are ordered as the numbers that they write. -/
theorem cb_num : ∀ (p q x y : List UInt8), p.length = q.length → M.getN p < M.getN q → Lib.compareBytes (p ++ x) (q ++ y) = -1 ∧ Lib.compareBytes (q ++ y) (p ++ x) = 1
  | [], [], _, _, _, h => by simp [M.getN] at h
  | [], _ :: _, _, _, hl, _ => by simp at hl
  | _ :: _, [], _, _, hl, _ => by simp at hl
  | c :: p, d :: q, x, y, hl, h => by
    have hl' : p.length = q.length := by simpa using hl
    rw [M.getN_cons, M.getN_cons, hl'] at h
    have hp := M.getN_lt p
    have hq := M.getN_lt q
    rw [hl'] at hp
    simp only [List.cons_append]
    rcases Nat.lt_trichotomy c.toNat d.toNat with hc | hc | hc
    · exact ⟨cb_lt _ _ _ _ hc, cb_gt _ _ _ _ hc⟩
    · have : c = d := UInt8.toNat_inj.1 hc
      subst this
      rw [cb_cons, cb_cons]
      exact cb_num p q x y hl' (by omega)
    · exfalso
      have : (d.toNat + 1) * 256 ^ q.length ≤ c.toNat * 256 ^ q.length := Nat.mul_le_mul_right _ hc
      rw [Nat.add_mul] at this
      omega
/-- Texts within a key. -/
theorem cb_text : ∀ (t u x y : List UInt8), Lib.compareBytes (M.esc t ++ 0 :: 1 :: x) (M.esc u ++ 0 :: 1 :: y) = if Lib.compareBytes t u = 0 then Lib.compareBytes x y else Lib.compareBytes t u
  | [], [], x, y => by
    simp only [M.esc, List.nil_append]
    rw [cb_cons, cb_cons, if_pos (show Lib.compareBytes [] [] = 0 from rfl)]
  | [], d :: u, x, y => by
    rw [show Lib.compareBytes [] (d :: u) = -1 from rfl, if_neg (by decide)]
    by_cases hd : d = 0
    · subst hd
      simp only [M.esc, if_pos, List.cons_append, List.nil_append]
      rw [cb_cons, cb_lt _ _ _ _ (by decide)]
    · simp only [M.esc, if_neg hd, List.cons_append, List.nil_append]
      refine cb_lt _ _ _ _ ?_
      have : d.toNat ≠ 0 := fun e => hd (UInt8.toNat_inj.1 e)
      show 0 < d.toNat
      omega
  | c :: t, [], x, y => by
    rw [show Lib.compareBytes (c :: t) [] = 1 from rfl, if_neg (by decide)]
    by_cases hd : c = 0
    · subst hd
      simp only [M.esc, if_pos, List.cons_append, List.nil_append]
      rw [cb_cons, cb_gt _ _ _ _ (by decide)]
    · simp only [M.esc, if_neg hd, List.cons_append, List.nil_append]
      refine cb_gt _ _ _ _ ?_
      have : c.toNat ≠ 0 := fun e => hd (UInt8.toNat_inj.1 e)
      show 0 < c.toNat
      omega
  | c :: t, d :: u, x, y => by
    have ih := cb_text t u x y
    rcases Nat.lt_trichotomy c.toNat d.toNat with hc | hc | hc
    · rw [cb_lt _ _ t u hc, if_neg (by decide)]
      have hd : d ≠ 0 := by rintro rfl; simp at hc
      by_cases h0 : c = 0
      · subst h0
        simp only [M.esc, if_pos, if_neg hd, List.cons_append]
        exact cb_lt _ _ _ _ hc
      · simp only [M.esc, if_neg h0, if_neg hd, List.cons_append]
        exact cb_lt _ _ _ _ hc
    · have : c = d := UInt8.toNat_inj.1 hc
      subst this
      rw [cb_cons]
      by_cases h0 : c = 0
      · subst h0
        simp only [M.esc, if_pos, List.cons_append]
        rw [cb_cons, cb_cons, ih]
      · simp only [M.esc, if_neg h0, List.cons_append]
        rw [cb_cons, ih]
    · rw [cb_gt _ _ t u hc, if_neg (by decide)]
      have hd : c ≠ 0 := by rintro rfl; simp at hc
      by_cases h0 : d = 0
      · subst h0
        simp only [M.esc, if_pos, if_neg hd, List.cons_append]
        exact cb_gt _ _ _ _ hc
      · simp only [M.esc, if_neg h0, if_neg hd, List.cons_append]
        exact cb_gt _ _ _ _ hc

/-- The order of lists. -/
def cmpL : List M.V → List M.V → Int
  | [], [] => 0
  | [], _ :: _ => -1
  | _ :: _, [] => 1
  | a :: A, b :: B => if cmpV a b = 0 then cmpL A B else cmpV a b
theorem key_cons (v : M.V) (L : List M.V) : M.keyOf (v :: L) = M.one v ++ M.keyOf L := by simp [M.keyOf]
theorem cmp_key : ∀ (A B : List M.V), M.errOf A = 0 → M.errOf B = 0 → Lib.compareBytes (M.keyOf A) (M.keyOf B) = cmpL A B
  | [], [], _, _ => rfl
  | [], b :: B, _, _ => by
    have := M.one_pos b
    rw [key_cons]; exact cb_nil _ (by rw [List.length_append]; omega)
  | a :: A, [], _, _ => by
    have := M.one_pos a
    rw [key_cons]; exact cb_nil' _ (by rw [List.length_append]; omega)
  | a :: A, b :: B, hA, hB => by
    have ha : M.chk a = 0 := by
      simp only [M.errOf] at hA
      split at hA
      · assumption
      · rename_i h0; exact absurd hA h0
    have hb : M.chk b = 0 := by
      simp only [M.errOf] at hB
      split at hB
      · assumption
      · rename_i h0; exact absurd hB h0
    simp only [M.errOf, if_pos ha, if_pos hb] at hA hB
    have ih := cmp_key A B hA hB
    rw [key_cons, key_cons, cmpL]
    obtain ⟨t, m, f⟩ := a
    obtain ⟨u, n, g⟩ := b
    cases f <;> cases g
    · have h1 := M.chk_number ha
      have h2 := M.chk_number hb
      have e : ∀ t n, M.one (t, n, false) = 16 :: M.putL 6 (n + 1099511627776).toNat := fun _ _ => rfl
      have hc : cmpV (t, m, false) (u, n, false) = cmpI m n := rfl
      rw [e, e, hc, List.cons_append, List.cons_append, cb_cons]
      have g1 := M.getN_put 6 (m + 1099511627776).toNat (by rw [show (256 : Nat) ^ 6 = 281474976710656 from rfl]; omega)
      have g2 := M.getN_put 6 (n + 1099511627776).toNat (by rw [show (256 : Nat) ^ 6 = 281474976710656 from rfl]; omega)
      rcases Int.lt_trichotomy m n with h | h | h
      · have hi : cmpI m n = -1 := by unfold cmpI; rw [if_pos h]
        rw [hi, if_neg (by decide)]
        exact (cb_num _ _ _ _ (by rw [M.putL_length, M.putL_length]) (by rw [g1, g2]; omega)).1
      · subst h
        have hi : cmpI m m = 0 := by unfold cmpI; rw [if_neg (by omega), if_neg (by omega)]
        rw [hi, if_pos rfl, cb_app, ih]
      · have hi : cmpI m n = 1 := by unfold cmpI; rw [if_neg (by omega), if_pos h]
        rw [hi, if_neg (by decide)]
        exact (cb_num _ _ _ _ (by rw [M.putL_length, M.putL_length]) (by rw [g1, g2]; omega)).2
    · rw [show cmpV (t, m, false) (u, n, true) = -1 from rfl, if_neg (by decide)]
      exact cb_lt _ _ _ _ (by decide)
    · rw [show cmpV (t, m, true) (u, n, false) = 1 from rfl, if_neg (by decide)]
      exact cb_gt _ _ _ _ (by decide)
    · have e : ∀ t n, M.one (t, n, true) = 32 :: (M.esc t ++ [0, 1]) := fun _ _ => rfl
      have hc : cmpV (t, m, true) (u, n, true) = Lib.compareBytes t u := rfl
      rw [e, e, hc, List.cons_append, List.cons_append, cb_cons, List.append_assoc, List.append_assoc]
      simp only [List.cons_append, List.nil_append]
      rw [cb_text, ih]
end Go.Proofs.Ytfiopegkopfceaa
