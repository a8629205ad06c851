/-
  The record of bytes: its bytes are these again.
-/
import Derived.Test.YtaepbmcmggnmpaaGA
namespace Go.Proofs.Ytaepbmcmggnmpaa
open Go.RowKit
set_option maxRecDepth 100000
namespace M
theorem put_getN (A : List UInt8) (n : Nat) (h : A.length = n) (h1 : 1 ≤ n) (h7 : n ≤ 7) : put (getN A : Int) n = A := by
  have hl := getN_lt A
  rw [h] at hl
  have hl2 : ((getN A : Nat) : Int) < 256 ^ n := by
    have : ((256 ^ n : Nat) : Int) = (256 : Int) ^ n := by rw [Int.natCast_pow]; rfl
    omega
  obtain ⟨e, el⟩ := put_len (getN A : Int) n (by omega) h1 h7 hl2
  rw [e, Int.toNat_natCast]
  refine eq_getN _ _ (by rw [putL_length, h]) ?_
  rw [getN_putL, Nat.mod_eq_of_lt hl]
theorem rnum_put (r : Rd) (n : Nat) (h1 : 1 ≤ n) (h7 : n ≤ 7) (h : (rnum r n).2.2 = false) : r.2 = false ∧ r.1 = put ((rnum r n).1 : Int) n ++ (rnum r n).2.1 ∧ (rnum r n).1 < 256 ^ n := by
  obtain ⟨g1, A, a1, a2, a3⟩ := rnum_back r n h7 h
  refine ⟨g1, ?_, ?_⟩
  · rw [a3, put_getN A n a1 h1 h7]; exact a2
  · rw [a3]; have := getN_lt A; rw [a1] at this; exact this
/-- A page that a record may have. -/
def okC (c : Ch) : Prop := (0 ≤ c.1 ∧ c.1 ≤ 65535) ∧ right c.2 = true ∧ c.2.length ≤ 65535
theorem chg_back (r : Rd) (h : (chg r).2.1 = 0) : r.2 = false ∧ r.1 = chB (chg r).1 ++ (chg r).2.2.1 ∧ (chg r).2.2.2 = false ∧ okC (chg r).1 := by
  obtain ⟨_, h1, h3⟩ := chg_len r h
  have e : chg r = ((((rnum r 2).1 : Int), (getP (rnum r 2).2.1).1), 0, (rtext (rnum r 2).2 (getP (rnum r 2).2.1).2.1).2) := by
    unfold chg
    rw [if_neg (by rw [h1]; decide), if_neg (by simp [h3])]
  obtain ⟨g1, g2, g3⟩ := rnum_put r 2 (by omega) (by omega) h1
  obtain ⟨p1, p2, p3, p4⟩ := putP_getP (rnum r 2).2.1 (getP (rnum r 2).2.1).1 (getP (rnum r 2).2.1).2.1 (by rw [← h3])
  have et : rtext (rnum r 2).2 (getP (rnum r 2).2.1).2.1 = ((rnum r 2).2.1.take (getP (rnum r 2).2.1).2.1, ((rnum r 2).2.1.drop (getP (rnum r 2).2.1).2.1, (rnum r 2).2.2)) := by
    unfold rtext
    rw [if_neg (by rintro (h | h); rw [h1] at h; cases h; omega)]
  rw [e, et]
  refine ⟨g1, ?_, h1, ⟨⟨by simp only; omega, by simp only; omega⟩, p3, p4⟩⟩
  simp only [chB]
  rw [p1, List.append_assoc, List.take_append_drop]
  exact g2
theorem pgs_back : ∀ (n : Nat) (r : Rd) (acc : List Ch), (pgs n r acc).2.1 = 0 → (pgs n r acc).2.2.2 = false → r.2 = false ∧ ∃ L, (pgs n r acc).1 = acc ++ L ∧ L.length = n ∧ r.1 = L.flatMap chB ++ (pgs n r acc).2.2.1 ∧ ∀ c ∈ L, okC c
  | 0, r, acc, _, h => ⟨h, [], by simp [pgs]⟩
  | n + 1, r, acc, h0, h => by
    rw [pgs_step] at h0 h ⊢
    by_cases hu : (chg r).2.1 = 0
    · rw [if_neg (by simp [hu])] at h0 h ⊢
      obtain ⟨u1, u2, u3, u4⟩ := chg_back r hu
      obtain ⟨_, L, l1, l2, l3, l4⟩ := pgs_back n _ _ h0 h
      refine ⟨u1, (chg r).1 :: L, by rw [l1]; simp, by simp [l2], ?_, ?_⟩
      · rw [List.flatMap_cons, List.append_assoc, ← l3]; exact u2
      · intro t ht
        rcases List.mem_cons.1 ht with rfl | ht
        · exact u4
        · exact l4 t ht
    · rw [if_pos hu] at h0
      exact absurd h0 hu
theorem one_ge (L : List Pc) (h : ∀ p ∈ L, 0 ≤ p.1 ∧ p.1 ≤ 65535 ∧ p.2 ≠ [] ∧ p.2.length ≤ 65535) : L.length * 5 ≤ (L.flatMap one).length ∧ ∀ p ∈ L, p.2.length ≤ (L.flatMap one).length := by
  induction L with
  | nil => simp
  | cons p L ih =>
    obtain ⟨i1, i2⟩ := ih (fun q hq => h q (by simp [hq]))
    obtain ⟨h1, h2, h3, h4⟩ := h p (by simp)
    have hf := one_length p h1 h2 h4
    have hp : 1 ≤ p.2.length := by
      cases hp : p.2 with
      | nil => exact absurd hp h3
      | cons => simp
    rw [List.flatMap_cons, List.length_append, hf, List.length_cons]
    refine ⟨by omega, fun q hq => ?_⟩
    rcases List.mem_cons.1 hq with rfl | hq
    · omega
    · have := i2 q hq; omega
theorem okC_small (c : Ch) (h : okC c) : c.2.length * 5 ≤ (chB c).length ∧ ∀ p ∈ c.2, p.2.length ≤ (chB c).length := by
  obtain ⟨_, h2, h3⟩ := h
  obtain ⟨a, b⟩ := one_ge c.2 (right_all h2)
  have : (c.2.flatMap one).length ≤ (chB c).length := by
    unfold chB putP
    rw [if_pos ⟨h2, h3⟩]
    simp only [List.length_append]; omega
  exact ⟨by omega, fun p hp => Nat.le_trans (b p hp) this⟩
theorem mem_flat {c : Ch} : ∀ {L : List Ch}, c ∈ L → (chB c).length ≤ (L.flatMap chB).length
  | d :: L, h => by
    rw [List.flatMap_cons, List.length_append]
    rcases List.mem_cons.1 h with rfl | h
    · omega
    · have := mem_flat h; omega
theorem getR_back (s : List UInt8) (r : Rec) (h : getR s = (r, 0)) : inB r = true ∧ recB r = s ∧ s.length ≤ 16384 ∧ SmR r := by
  unfold getR at h
  split at h
  · simp at h
  · rename_i hlen
    split at h
    · rename_i h1; simp at h; exact absurd h.2 h1
    · rename_i h1
      split at h
      · simp at h
      · rename_i h2
        split at h
        · simp at h
        · rename_i h3
          split at h
          · rename_i h4
            have hr : r = ⟨(hd1 s).1, (hd2 s).1, (hd3 s).1, (hd4 s).1, (hd5 s).1, (pgsOf s).1⟩ := (congrArg Prod.fst h).symm
            have h1' : (pgsOf s).2.1 = 0 := by simpa using h1
            have h3' : (pgsOf s).2.2.1 = [] := by simpa using h3
            rw [Bool.not_eq_true] at h2
            obtain ⟨g6, L, l1, l2, l3, l4⟩ := pgs_back _ _ _ h1' h2
            rw [List.nil_append] at l1
            obtain ⟨g5, a6, b6⟩ := rnum_put (hd5 s).2 1 (by omega) (by omega) g6
            obtain ⟨g4, a5, b5⟩ := rnum_put (hd4 s).2 2 (by omega) (by omega) g5
            obtain ⟨g3, a4, b4⟩ := unf_back (hd3 s).2 g4
            obtain ⟨g2, a3, b3⟩ := rnum_put (hd2 s).2 1 (by omega) (by omega) g3
            obtain ⟨g1, a2, b2⟩ := rnum_put (hd1 s).2 6 (by omega) (by omega) g2
            obtain ⟨_, a1, b1⟩ := rnum_put (s, false) 6 (by omega) (by omega) g1
            have e6 : (hd6 s).1 = (rnum (hd5 s).2 1).1 := rfl
            have hpL : (pgsOf s).1 = L := l1
            have hrec : recB r = s := by
              rw [hr]
              unfold recB headB
              simp only
              rw [hpL, l2]
              have q6 : (hd6 s).2.1 = L.flatMap chB := by
                have := l3
                rw [show (pgs (hd6 s).1 (hd6 s).2 []).2.2.1 = [] from h3', List.append_nil] at this
                exact this
              have q5 : (hd5 s).2.1 = put ((hd6 s).1 : Int) 1 ++ L.flatMap chB := by rw [← q6]; exact a6
              have q4 : (hd4 s).2.1 = put ((hd5 s).1 : Int) 2 ++ (put ((hd6 s).1 : Int) 1 ++ L.flatMap chB) := by rw [← q5]; exact a5
              have q3 : (hd3 s).2.1 = frm (hd4 s).1 ++ (put ((hd5 s).1 : Int) 2 ++ (put ((hd6 s).1 : Int) 1 ++ L.flatMap chB)) := by rw [← q4]; exact a4
              have q2 : (hd2 s).2.1 = put ((hd3 s).1 : Int) 1 ++ (frm (hd4 s).1 ++ (put ((hd5 s).1 : Int) 2 ++ (put ((hd6 s).1 : Int) 1 ++ L.flatMap chB))) := by rw [← q3]; exact a3
              have q1 : (hd1 s).2.1 = put ((hd2 s).1 : Int) 6 ++ (put ((hd3 s).1 : Int) 1 ++ (frm (hd4 s).1 ++ (put ((hd5 s).1 : Int) 2 ++ (put ((hd6 s).1 : Int) 1 ++ L.flatMap chB)))) := by rw [← q2]; exact a2
              have q0 : s = put ((hd1 s).1 : Int) 6 ++ (put ((hd2 s).1 : Int) 6 ++ (put ((hd3 s).1 : Int) 1 ++ (frm (hd4 s).1 ++ (put ((hd5 s).1 : Int) 2 ++ (put ((hd6 s).1 : Int) 1 ++ L.flatMap chB))))) := by rw [← q1]; exact a1
              conv => rhs; rw [q0]
              simp only [List.append_assoc]
            have b1' : (hd1 s).1 < 256 ^ 6 := b1
            have b2' : (hd2 s).1 < 256 ^ 6 := b2
            have b3' : (hd3 s).1 < 256 ^ 1 := b3
            have b5' : (hd5 s).1 < 256 ^ 2 := b5
            have b6' : (hd6 s).1 < 256 ^ 1 := b6
            have b4' : (hd4 s).1.length ≤ 65535 := b4
            have hkd := (btw_iff _ _ _).1 h4
            have hb : inB r = true := by
              rw [inB_iff, hr]
              simp only
              rw [hpL, l2]
              refine ⟨by omega, by omega, hkd, b4', by omega, by omega, fun c hc => ⟨(l4 c hc).1, (l4 c hc).2.1⟩⟩
            have hsl : s.length ≤ 16384 := by omega
            have hp : r.pages = L := by rw [hr]; exact hpL
            have hu : r.undo = (hd4 s).1 := by rw [hr]
            have hfl : (L.flatMap chB).length ≤ 16384 := by
              have := congrArg List.length hrec
              unfold recB at this
              rw [hp, List.length_append] at this
              omega
            refine ⟨hb, hrec, hsl, ⟨by rw [hu]; omega, by rw [hp, l2]; omega, fun c hc => ?_⟩⟩
            rw [hp] at hc
            obtain ⟨s1, s2⟩ := okC_small c (l4 c hc)
            have := mem_flat hc
            exact ⟨by omega, fun p hp => by have := s2 p hp; omega⟩
          · simp at h
theorem putR_getR (s : List UInt8) (r : Rec) (h : getR s = (r, 0)) : putR r = (s, 0) := by
  obtain ⟨h1, h2, h3, _⟩ := getR_back s r h
  unfold putR
  rw [if_pos h1, h2, if_neg (by omega)]
theorem getR_zero (s : List UInt8) (h : (getR s).2 ≠ 0) : (getR s).1 = zeroR := by
  unfold getR at *
  repeat (split; rfl)
  split
  · rename_i a b c d e
    rw [if_neg a, if_neg b, if_neg c, if_neg d, if_pos e] at h
    exact absurd rfl h
  · rfl
theorem getR_small (s : List UInt8) : SmR (getR s).1 := by
  by_cases h : (getR s).2 = 0
  · exact (getR_back s (getR s).1 (by rw [← h])).2.2.2
  · rw [getR_zero s h]
    exact ⟨by simp [zeroR], by simp [zeroR], fun c hc => by simp [zeroR] at hc⟩
end M
end Go.Proofs.Ytaepbmcmggnmpaa
