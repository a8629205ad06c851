/-
  What layer 7 says of lists of texts: Join and Split, as functions.
-/
import Derived.Test.YtaepbmcmggnmpaaD
namespace Go.Proofs.Ytaepbmcmggnmpaa
open Go.RowKit
namespace M
theorem rtext_app (A B : List UInt8) (n : Nat) (h : A.length = n) : rtext (A ++ B, false) n = (A, (B, false)) := by
  subst h; simp [rtext]
theorem rnum_app (A B : List UInt8) (n : Nat) (h : A.length = n) (h7 : n ≤ 7) : rnum (A ++ B, false) n = (getN A, (B, false)) := by
  unfold rnum
  rw [rtext_app A B n h]
  simp only [get]
  rw [if_pos (by omega)]
theorem rtext_back (r : Rd) (n : Nat) (h : (rtext r n).2.2 = false) : r.2 = false ∧ r.1 = (rtext r n).1 ++ (rtext r n).2.1 ∧ (rtext r n).1.length = n := by
  unfold rtext at *
  split at h
  · simp at h
  · rename_i hn
    rw [if_neg hn]
    simp only at h ⊢
    have h2 : ¬ r.1.length < n := fun e => hn (.inr e)
    exact ⟨h, (List.take_append_drop n r.1).symm, by rw [List.length_take]; omega⟩
theorem rnum_back (r : Rd) (n : Nat) (h7 : n ≤ 7) (h : (rnum r n).2.2 = false) : r.2 = false ∧ ∃ A, A.length = n ∧ r.1 = A ++ (rnum r n).2.1 ∧ (rnum r n).1 = getN A := by
  obtain ⟨h1, h2, h3⟩ := rtext_back r n h
  refine ⟨h1, (rtext r n).1, h3, h2, ?_⟩
  show get _ = _
  unfold get
  rw [if_pos (by omega)]
theorem rtext_bad (r : Rd) (n : Nat) (h : r.2 = true) : rtext r n = ([], (r.1, true)) := by unfold rtext; rw [if_pos (.inl h)]
theorem rnum_bad (r : Rd) (n : Nat) (h : r.2 = true) : rnum r n = (0, (r.1, true)) := by unfold rnum; rw [rtext_bad r n h]; rfl
theorem rnum_short (r : Rd) (n : Nat) (h : (rnum r n).2.2 = true) : (rnum r n).1 = 0 := by
  unfold rnum rtext at *
  split at h
  · rename_i hn; simp only [hn, if_true]; rfl
  · rename_i hn
    exact absurd (.inl h) hn
/-- A text behind its length. -/
def frm (t : List UInt8) : List UInt8 := put t.length 2 ++ t
def unf (r : Rd) : List UInt8 × Rd := rtext (rnum r 2).2 (rnum r 2).1
theorem frm_length (t : List UInt8) (h : t.length ≤ 65535) : (frm t).length = 2 + t.length := by
  unfold frm; rw [List.length_append, put_two_len _ (by omega) (by omega)]
theorem unf_frm (t B : List UInt8) (h : t.length ≤ 65535) : unf (frm t ++ B, false) = (t, (B, false)) := by
  unfold unf frm
  rw [List.append_assoc, rnum_app (put t.length 2) (t ++ B) 2 (put_two_len _ (by omega) (by omega)) (by omega)]
  have := get_two (t.length : Int) (by omega) (by omega)
  simp only
  rw [show getN (put (t.length : Int) 2) = t.length by omega, rtext_app t B _ rfl]
theorem unf_back (r : Rd) (h : (unf r).2.2 = false) : r.2 = false ∧ r.1 = frm (unf r).1 ++ (unf r).2.1 ∧ (unf r).1.length ≤ 65535 := by
  obtain ⟨h1, h2, h3⟩ := rtext_back (rnum r 2).2 (rnum r 2).1 h
  obtain ⟨g1, A, g2, g3, g4⟩ := rnum_back r 2 (by omega) h1
  have e : (unf r).1 = (rtext (rnum r 2).2 (rnum r 2).1).1 := rfl
  have e2 : (unf r).2.1 = (rtext (rnum r 2).2 (rnum r 2).1).2.1 := rfl
  have hA := getN_lt A
  rw [g2] at hA
  refine ⟨g1, ?_, ?_⟩
  · have h3' : (unf r).1.length = getN A := by rw [e, h3, g4]
    unfold frm
    rw [h3', two_of A g2, e, e2, List.append_assoc, ← h2]; exact g3
  · rw [e, h3, g4]; omega
theorem unf_len (r : Rd) : (unf r).2.1.length ≤ r.1.length := Nat.le_trans (rtext_len _ _).2 (rtext_len _ _).2
theorem unf_len1 (r : Rd) : (unf r).1.length ≤ 65535 := Nat.le_trans (rtext_len _ _).1 (rnum_lt r 2 (by omega)).1
def spl : Nat → Rd → List (List UInt8) → List (List UInt8) × Rd
  | 0, r, acc => (acc, r)
  | n + 1, r, acc => if (unf r).2.2 = true then (acc, (unf r).2) else spl n (unf r).2 (acc ++ [(unf r).1])
theorem spl_step (n : Nat) (r : Rd) (acc : List (List UInt8)) : spl (n + 1) r acc = if (unf r).2.2 = true then (acc, (unf r).2) else spl n (unf r).2 (acc ++ [(unf r).1]) := rfl
theorem spl_frm (L : List (List UInt8)) : ∀ (B : List UInt8) (acc : List (List UInt8)), (∀ t ∈ L, t.length ≤ 65535) → spl L.length (L.flatMap frm ++ B, false) acc = (acc ++ L, (B, false)) := by
  induction L with
  | nil => intro B acc _; simp [spl]
  | cons t L ih =>
    intro B acc h
    rw [List.length_cons, spl_step, List.flatMap_cons, List.append_assoc, unf_frm t _ (h t (by simp))]
    simp only [Bool.false_eq_true, if_false]
    rw [ih B _ (fun q hq => h q (by simp [hq]))]
    simp
theorem spl_back : ∀ (n : Nat) (r : Rd) (acc : List (List UInt8)), (spl n r acc).2.2 = false → r.2 = false ∧ ∃ L, (spl n r acc).1 = acc ++ L ∧ L.length = n ∧ r.1 = L.flatMap frm ++ (spl n r acc).2.1 ∧ ∀ t ∈ L, t.length ≤ 65535
  | 0, r, acc, h => ⟨h, [], by simp [spl]⟩
  | n + 1, r, acc, h => by
    rw [spl_step] at h ⊢
    by_cases hu : (unf r).2.2 = true
    · rw [if_pos hu] at h; rw [hu] at h; cases h
    · rw [if_neg hu] at h ⊢
      rw [Bool.not_eq_true] at hu
      obtain ⟨u1, u2, u3⟩ := unf_back r hu
      obtain ⟨_, L, l1, l2, l3, l4⟩ := spl_back n _ _ h
      refine ⟨u1, (unf r).1 :: L, by rw [l1]; simp, by simp [l2], ?_, ?_⟩
      · rw [List.flatMap_cons, List.append_assoc, ← l3]; exact u2
      · intro t ht
        rcases List.mem_cons.1 ht with rfl | ht
        · exact u3
        · exact l4 t ht
def joinL (L : List (List UInt8)) : List UInt8 := put L.length 2 ++ L.flatMap frm
def split (s : List UInt8) : List (List UInt8) × Nat :=
  if (spl (rnum (s, false) 2).1 (rnum (s, false) 2).2 []).2.2 = true then ([], 3)
  else if (spl (rnum (s, false) 2).1 (rnum (s, false) 2).2 []).2.1 ≠ [] then ([], 4) else ((spl (rnum (s, false) 2).1 (rnum (s, false) 2).2 []).1, 0)
theorem split_join (L : List (List UInt8)) (hL : L.length ≤ 65535) (h : ∀ t ∈ L, t.length ≤ 65535) : split (joinL L) = (L, 0) := by
  have e : rnum (joinL L, false) 2 = (L.length, (L.flatMap frm, false)) := by
    unfold joinL
    rw [rnum_app _ _ 2 (put_two_len _ (by omega) (by omega)) (by omega)]
    have := get_two (L.length : Int) (by omega) (by omega)
    rw [show getN (put (L.length : Int) 2) = L.length by omega]
  have e2 := spl_frm L [] [] h
  rw [List.append_nil] at e2
  unfold split
  simp only [e, e2]
  simp
theorem flat_frm (L : List (List UInt8)) (h : ∀ t ∈ L, t.length ≤ 65535) : L.length * 2 ≤ (L.flatMap frm).length ∧ ∀ t ∈ L, t.length ≤ (L.flatMap frm).length := by
  induction L with
  | nil => simp
  | cons t L ih =>
    obtain ⟨i1, i2⟩ := ih (fun q hq => h q (by simp [hq]))
    have hf := frm_length t (h t (by simp))
    rw [List.flatMap_cons, List.length_append, hf, List.length_cons]
    refine ⟨by omega, fun q hq => ?_⟩
    rcases List.mem_cons.1 hq with rfl | hq
    · omega
    · have := i2 q hq; omega
theorem join_split (s : List UInt8) (L : List (List UInt8)) (h : split s = (L, 0)) : joinL L = s ∧ L.length ≤ 65535 ∧ L.length * 2 ≤ s.length ∧ ∀ t ∈ L, t.length ≤ 65535 ∧ t.length ≤ s.length := by
  unfold split at h
  split at h
  · cases h
  · rename_i h1
    split at h
    · cases h
    · rename_i h2
      rw [Bool.not_eq_true] at h1
      obtain ⟨g1, K, k1, k2, k3, k4⟩ := spl_back _ _ _ h1
      obtain ⟨_, A, a1, a2, a3⟩ := rnum_back (s, false) 2 (by omega) g1
      have hL : L = K := by
        have := congrArg Prod.fst h
        simp only at this
        rw [← this, k1, List.nil_append]
      subst hL
      have h2' : (spl (rnum (s, false) 2).1 (rnum (s, false) 2).2 []).2.1 = [] := by simpa using h2
      rw [h2', List.append_nil] at k3
      have hA := getN_lt A
      rw [a1] at hA
      have e : joinL L = s := by
        unfold joinL
        rw [k2, a3, two_of A a1, ← k3]; exact a2.symm
      have hf := flat_frm L k4
      have hl : s.length = 2 + (L.flatMap frm).length := by rw [← e]; unfold joinL; rw [List.length_append, put_two_len _ (by omega) (by omega)]
      exact ⟨e, by omega, by omega, fun t ht => ⟨k4 t ht, by have := hf.2 t ht; omega⟩⟩
theorem split_len (s : List UInt8) : (split s).1.length * 2 ≤ s.length ∧ ∀ t ∈ (split s).1, t.length ≤ 65535 ∧ t.length ≤ s.length := by
  by_cases h : (split s).2 = 0
  · have := join_split s (split s).1 (by rw [← h])
    exact ⟨this.2.2.1, this.2.2.2⟩
  · have : (split s).1 = [] := by
      unfold split at *
      split
      · rfl
      · rename_i h1
        split
        · rfl
        · rename_i h2
          rw [if_neg h1, if_neg h2] at h
          exact absurd rfl h
    rw [this]; simp
end M
end Go.Proofs.Ytaepbmcmggnmpaa
