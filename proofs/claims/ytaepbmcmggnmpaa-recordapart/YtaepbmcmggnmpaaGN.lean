/-
  The record of a record's bytes is that record.
-/
import Derived.Test.YtaepbmcmggnmpaaGM
namespace Go.Proofs.Ytaepbmcmggnmpaa
open Go.RowKit
set_option maxRecDepth 100000
namespace M
theorem getN_putn (n : Int) (z : Nat) (h0 : 0 ≤ n) (h1 : 1 ≤ z) (h7 : z ≤ 7) (h : n < 256 ^ z) : (getN (put n z) : Int) = n ∧ (put n z).length = z := by
  obtain ⟨e, el⟩ := put_len n z h0 h1 h7 h
  refine ⟨?_, el⟩
  have : n.toNat < 256 ^ z := by
    have : ((256 ^ z : Nat) : Int) = (256 : Int) ^ z := by rw [Int.natCast_pow]; rfl
    omega
  rw [e, getN_put z n.toNat this]; omega
theorem rnum_putn (n : Int) (z : Nat) (B : List UInt8) (h0 : 0 ≤ n) (h1 : 1 ≤ z) (h7 : z ≤ 7) (h : n < 256 ^ z) : ((rnum (put n z ++ B, false) z).1 : Int) = n ∧ (rnum (put n z ++ B, false) z).2 = (B, false) := by
  obtain ⟨e, el⟩ := getN_putn n z h0 h1 h7 h
  rw [rnum_app (put n z) B z el h7]
  exact ⟨e, rfl⟩
theorem chg_chB (c : Ch) (B : List UInt8) (h : okC c) : chg (chB c ++ B, false) = (c, 0, (B, false)) := by
  obtain ⟨⟨h1, h2⟩, h3, h4⟩ := h
  have hb : chB c ++ B = put c.1 2 ++ (putP c.2 ++ B) := by unfold chB; rw [List.append_assoc]
  have e12 : ((rnum (put c.1 2 ++ (putP c.2 ++ B), false) 2).1 : Int) = c.1 ∧ (rnum (put c.1 2 ++ (putP c.2 ++ B), false) 2).2 = (putP c.2 ++ B, false) := rnum_putn c.1 2 (putP c.2 ++ B) h1 (by omega) (by omega) (by omega)
  obtain ⟨e1, e2⟩ := e12
  have e3 := getP_putP c.2 B h3 h4
  rw [hb]
  have e4 : rtext ((putP c.2 ++ B), false) (putP c.2).length = (putP c.2, (B, false)) := rtext_app _ _ _ rfl
  unfold chg
  rw [e2]
  simp only [e3, e4]
  simp only [Bool.false_eq_true, if_false, ne_eq, not_true]
  obtain ⟨c1, c2⟩ := c
  simp only at e1 ⊢
  rw [e1]
theorem pgs_flat (L : List Ch) : ∀ (B : List UInt8) (acc : List Ch), (∀ c ∈ L, okC c) → pgs L.length (L.flatMap chB ++ B, false) acc = (acc ++ L, 0, (B, false)) := by
  induction L with
  | nil => intro B acc _; simp [pgs]
  | cons c L ih =>
    intro B acc h
    rw [List.length_cons, pgs_step, List.flatMap_cons, List.append_assoc, chg_chB c _ (h c (by simp))]
    simp only [ne_eq, not_true, if_false]
    rw [ih B _ (fun q hq => h q (by simp [hq]))]
    simp
theorem getR_putR (r : Rec) (h : inB r = true) (hc : ∀ c ∈ r.pages, c.2.length ≤ 65535) (hl : (recB r).length ≤ 16384) : getR (recB r) = (r, 0) := by
  obtain ⟨i1, i2, i3, i4, i5, i6, i7⟩ := (inB_iff r).1 h
  obtain ⟨T6, hT6⟩ : ∃ T, T = r.pages.flatMap chB ++ [] := ⟨_, rfl⟩
  obtain ⟨T5, hT5⟩ : ∃ T, T = put (r.pages.length : Int) 1 ++ T6 := ⟨_, rfl⟩
  obtain ⟨T4, hT4⟩ : ∃ T, T = put r.undone 2 ++ T5 := ⟨_, rfl⟩
  obtain ⟨T3, hT3⟩ : ∃ T, T = frm r.undo ++ T4 := ⟨_, rfl⟩
  obtain ⟨T2, hT2⟩ : ∃ T, T = put r.kind 1 ++ T3 := ⟨_, rfl⟩
  obtain ⟨T1, hT1⟩ : ∃ T, T = put r.txn 6 ++ T2 := ⟨_, rfl⟩
  have e0 : recB r = put r.lsn 6 ++ T1 := by
    rw [hT1, hT2, hT3, hT4, hT5, hT6]
    unfold recB headB; simp only [List.append_assoc, List.append_nil]
  have d1 : ((hd1 (recB r)).1 : Int) = r.lsn ∧ (hd1 (recB r)).2 = (T1, false) := by
    unfold hd1; rw [e0]; exact rnum_putn r.lsn 6 T1 (by omega) (by omega) (by omega) (by omega)
  have d2 : ((hd2 (recB r)).1 : Int) = r.txn ∧ (hd2 (recB r)).2 = (T2, false) := by
    unfold hd2; rw [d1.2, hT1]; exact rnum_putn r.txn 6 T2 (by omega) (by omega) (by omega) (by omega)
  have d3 : ((hd3 (recB r)).1 : Int) = r.kind ∧ (hd3 (recB r)).2 = (T3, false) := by
    unfold hd3; rw [d2.2, hT2]; exact rnum_putn r.kind 1 T3 (by omega) (by omega) (by omega) (by omega)
  have d4 : hd4 (recB r) = (r.undo, (T4, false)) := by
    unfold hd4; rw [d3.2, hT3]; exact unf_frm r.undo T4 i4
  have d5 : ((hd5 (recB r)).1 : Int) = r.undone ∧ (hd5 (recB r)).2 = (T5, false) := by
    unfold hd5; rw [d4, hT4]; exact rnum_putn r.undone 2 T5 (by omega) (by omega) (by omega) (by omega)
  have d6 : ((hd6 (recB r)).1 : Int) = (r.pages.length : Int) ∧ (hd6 (recB r)).2 = (T6, false) := by
    unfold hd6; rw [d5.2, hT5]; exact rnum_putn (r.pages.length : Int) 1 T6 (by omega) (by omega) (by omega) (by omega)
  have p := pgs_flat r.pages [] [] (fun c hc' => ⟨(i7 c hc').1, (i7 c hc').2, hc c hc'⟩)
  have d7 : pgsOf (recB r) = (r.pages, 0, ([], false)) := by
    unfold pgsOf
    rw [d6.2, show (hd6 (recB r)).1 = r.pages.length by have := d6.1; omega, hT6]
    simpa using p
  have hk : btw 1 ((hd3 (recB r)).1 : Int) 4 = true := by rw [btw_iff, d3.1]; omega
  unfold getR
  rw [if_neg (by omega), d7]
  simp only [ne_eq, not_true, if_false, Bool.false_eq_true]
  rw [if_pos hk, d1.1, d2.1, d3.1, d4, d5.1]
end M
end Go.Proofs.Ytaepbmcmggnmpaa
