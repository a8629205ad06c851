/-
  The contract of the document's own Split (concordanceref07), walked.
-/
import Derived.Test.YtaepbmcmggnmpaaRA
namespace Go.Proofs.Ytaepbmcmggnmpaa
open Go.RowKit
set_option maxRecDepth 100000

set_option maxHeartbeats 2000000 in
theorem rsplit_any (s : List UInt8) (w : World) (hs : s.length ≤ 60000) :
    Calls Try.prog 17 #[.string (M.bs s)] w fun e w' => ∃ x, e = .returned (.tuple #[x, .int .i64 ((M.split s).2 : Int)]) ∧ OwnT w' w.heap.size x (M.split s).1 ∧ Bel w w' := by
  have H1 := fun W h => number_any w.heap.size (s, false) 2 W h (by omega) (by simp only; omega)
  have hl := rnum_lt (s, false) 2 (by omega)
  have hsh := M.rnum_short (s, false) 2
  have HS : Hid (M.split s = if (M.spl (M.rnum (s, false) 2).1 (M.rnum (s, false) 2).2 []).2.2 = true then ([], 3)
    else if (M.spl (M.rnum (s, false) 2).1 (M.rnum (s, false) 2).2 []).2.1 ≠ [] then ([], 4) else ((M.spl (M.rnum (s, false) 2).1 (M.rnum (s, false) 2).2 []).1, 0)) := rfl
  generalize (M.rnum (s, false) 2).2 = r0 at *
  generalize (M.rnum (s, false) 2).1 = n at *
  obtain ⟨R, hR⟩ : ∃ R, R = M.spl n r0 [] := ⟨_, rfl⟩
  rw [← hR] at HS
  have HR : Hid ((r0.2 = false ∧ M.spl n r0 [] = R) ∨ (r0.2 = true ∧ R.2.2 = true)) := by
    by_cases h : r0.2 = true
    · have hn := hsh h
      subst hn
      exact .inr ⟨h, by rw [hR]; exact h⟩
    · exact .inl ⟨by simpa using h, hR.symm⟩
  simp only at hl
  clear hR hsh
  go_enter Try.func17, Try.ntmps17
  go_wp2_with fail
  refine (H1 _ (heap_alloc_new w _)).mono ?_
  rintro e w2 ⟨rfl, h2, k2⟩
  have bb2 := Kp.bel (Bel.al (Below.refl _ w) _) (Nat.le_refl _) k2
  clear H1
  go_wp2_with fail
  go_loopw [6, 7] (fun lv i wr => ∃ (k : Nat) (r : M.Rd) (acc : List (List UInt8)), k ≤ n ∧ i = .int .i64 k ∧ OwnT wr (w.heap.size + 1) lv acc ∧ acc.length ≤ k ∧ InAt wr w.heap.size r ∧ r.1.length ≤ 60000 ∧ ((r.2 = false ∧ M.spl (n - k) r acc = R) ∨ (r.2 = true ∧ R.2.2 = true)) ∧ Bel w wr) (fun _ i _ => n - (intOf i).toNat)
  case atStart => exact ⟨0, r0, [], Nat.zero_le _, rfl, OwnT.nil _ _, by simp, h2, by omega, HR.out, bb2⟩
  case round =>
    clear h2 k2 bb2
    obtain ⟨k, r, acc, hk, rfl, hown, hacc, hrd, hrl, hspl, hb⟩ := hrel
    have hbz := hb.size
    have hrz := hrd.lt
    obtain ⟨c0, c1, _, _⟩ := hrd.cells
    have HRD := hid hrd
    clear hrd
    rcases hspl with ⟨hf, hspl⟩ | ⟨ht, hbad⟩
    · have e0 : eN r.2 = 0 := by rw [hf]; rfl
      rw [e0] at c1
      by_cases hlt : k < n
      · rw [show n - k = (n - (k + 1)) + 1 by omega, M.spl_step] at hspl
        have hul := M.unf_len r
        have hn2 := rnum_lt r 2 (by omega)
        have H1 := fun W h => number_any w.heap.size r 2 W h (by omega) (by omega)
        have H2 := fun W h => take_any w.heap.size (M.rnum r 2).2 (M.rnum r 2).1 W h (by omega) (by omega)
        have HN : Hid (((M.unf r).2.2 = false ∧ M.spl (n - (k + 1)) (M.unf r).2 (acc ++ [(M.unf r).1]) = R) ∨ ((M.unf r).2.2 = true ∧ R.2.2 = true)) := by
          by_cases hu : (M.unf r).2.2 = true
          · rw [if_pos hu] at hspl
            exact .inr ⟨hu, by rw [← hspl]; exact hu⟩
          · rw [if_neg hu] at hspl
            exact .inl ⟨by simpa using hu, hspl⟩
        have eU : M.rtext (M.rnum r 2).2 (M.rnum r 2).1 = M.unf r := rfl
        rw [eU] at H2
        clear hspl hf e0 eU
        generalize (M.unf r).2 = r' at *
        generalize (M.unf r).1 = t' at *
        generalize (M.rnum r 2).2 = r1 at *
        generalize (M.rnum r 2).1 = n1 at *
        go_wp2_with fail
        refine (H1 _ HRD.out).mono ?_
        rintro e w3 ⟨rfl, h3, k3⟩
        have o3 := hown.kp k3 (by omega)
        have z3 := k3.size
        go_wp2_with fail
        refine (H2 _ h3).mono ?_
        rintro e w4 ⟨rfl, h4, k4⟩
        have o4 := o3.kp k4 (by omega)
        have z4 := k4.size
        go_wp2_with (first
          | (at_builtin; refine app9 rfl _ _ rfl (w.heap.size + 1) _ _ rfl o4 t' w4.heap.size rfl rfl (by omega) (by omega) ?_; intro v1 w5 o5 b5))
        go_roundw
        case rel => exact ⟨k + 1, r', acc ++ [t'], by omega, by go_num, o5, by simp; omega, (b5.block _ (Nat.lt_succ_self _)).trans h4, by omega, HN.out, (Kp.bel hb (Nat.le_refl _) (k3.tr k4)).trans (b5.mono (by omega))⟩
        case measure => simp [intOf]; omega
      · obtain rfl : k = n := by omega
        rw [Nat.sub_self] at hspl
        have hspl' : R = (acc, r) := hspl.symm
        clear hspl
        subst hspl'
        have hu : ¬ r.2 = true := by rw [hf]; decide
        by_cases hv : r.1 = []
        · have HF : Hid (M.split s = (acc, 0)) := by show _ = _; rw [HS.out, if_neg hu, if_neg (by simp only; simp [hv])]
          have q : (M.bs r.1).toList = [] := by rw [M.bs_toList]; exact hv
          clear hu hv hf e0
          go_wp2_with fail
          go_ret2
          exact ⟨_, by rw [HF.out]; rfl, by rw [HF.out]; exact hown.low (by omega), hb⟩
        · have HF : Hid (M.split s = ([], 4)) := by show _ = _; rw [HS.out, if_neg hu, if_pos (by simp only; exact hv)]
          have q1 : (M.bs r.1).toList.isEmpty = false := by rw [M.bs_toList]; simpa using hv
          have q2 : ¬ (M.bs r.1).toList = [] := by rw [M.bs_toList]; exact hv
          clear hu hv hf e0
          go_wp2_with fail
          go_ret2
          exact ⟨_, by rw [HF.out]; rfl, by rw [HF.out]; exact OwnT.nil _ _, hb⟩
    · have e0 : eN r.2 = 3 := by rw [ht]; rfl
      rw [e0] at c1
      have HF : Hid (M.split s = ([], 3)) := by show _ = _; rw [HS.out, if_pos hbad]
      clear ht hbad e0
      by_cases hlt : k < n
      · go_wp2_with fail
        go_region
        go_wp2_with fail
        go_ret2
        exact ⟨_, by rw [HF.out]; rfl, by rw [HF.out]; exact OwnT.nil _ _, hb.dr⟩
      · go_wp2_with fail
        go_region
        go_wp2_with fail
        go_ret2
        exact ⟨_, by rw [HF.out]; rfl, by rw [HF.out]; exact OwnT.nil _ _, hb.dr⟩
end Go.Proofs.Ytaepbmcmggnmpaa
