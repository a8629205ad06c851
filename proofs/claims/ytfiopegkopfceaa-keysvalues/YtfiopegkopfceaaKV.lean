/-
  The law KeysValues, walked.
-/
import Derived.Test.YtfiopegkopfceaaKS
namespace Go.Proofs.Ytfiopegkopfceaa
open Go.RowKit

theorem put_one (v : M.V) : (M.put [v]).2 = M.chk v := by
  have e : M.errOf [v] = M.chk v := M.errOf_snoc [] v rfl
  unfold M.put
  by_cases h : M.errOf [v] = 0
  · rw [if_pos h, ← e, h]
  · rw [if_neg h, ← e]
/-- A slice of one struct, just built. -/
theorem vals_one (w : World) (t : List UInt8) (n : Int) (b : Bool) : Vals (w.alloc (.cells #[.string (M.bs t), .int .i64 n, .bool b] 36)) (.slice (some ⟨w.heap.size, 0, none⟩) 1 1) [(t, n, b)] := by
  refine ⟨_, _, rfl, .inr ⟨w.heap.size, 0, rfl, fun j hj => ?_⟩⟩
  match j, hj with
  | 0, _ => simp [World.cell?_alloc_at]
theorem vals_at (w : World) (g : Nat) (hg : g = w.heap.size) (t : List UInt8) (n : Int) (b : Bool) : Vals (w.alloc (.cells #[.string (M.bs t), .int .i64 n, .bool b] 36)) (.slice (some ⟨g, 0, none⟩) 1 1) [(t, n, b)] := by
  subst hg; exact vals_one w t n b
theorem two_boxes {w w1 : World} {a0 a1 a2 c0 c1 c2 : Value} {t u : TypeId} {o : Obj} (b1 : Bel (((w.alloc (.cells #[a0, a1, a2] t)).alloc (.cells #[c0, c1, c2] u)).alloc o) w1) :
    (w1.cell? ⟨w.heap.size, 0, none⟩ = some a0 ∧ w1.cell? ⟨w.heap.size, 1, none⟩ = some a1 ∧ w1.cell? ⟨w.heap.size, 2, none⟩ = some a2) ∧
    (w1.cell? ⟨w.heap.size + 1, 0, none⟩ = some c0 ∧ w1.cell? ⟨w.heap.size + 1, 1, none⟩ = some c1 ∧ w1.cell? ⟨w.heap.size + 1, 2, none⟩ = some c2) ∧ w.heap.size + 1 < w1.heap.size := by
  have bz := b1.size
  simp at bz
  have hA : ∀ i, w1.cell? ⟨w.heap.size, i, none⟩ = (w.alloc (.cells #[a0, a1, a2] t)).cell? ⟨w.heap.size, i, none⟩ := fun i => by
    rw [b1.cell (p := ⟨w.heap.size, i, none⟩) (by simp; omega), World.cell?_alloc_past _ _ _ (by simp; omega), World.cell?_alloc_past _ _ _ (by simp)]
  have hB : ∀ i, w1.cell? ⟨w.heap.size + 1, i, none⟩ = ((w.alloc (.cells #[a0, a1, a2] t)).alloc (.cells #[c0, c1, c2] u)).cell? ⟨w.heap.size + 1, i, none⟩ := fun i => by
    rw [b1.cell (p := ⟨w.heap.size + 1, i, none⟩) (by simp), World.cell?_alloc_past _ _ _ (by simp)]
  refine ⟨⟨?_, ?_, ?_⟩, ⟨?_, ?_, ?_⟩, by omega⟩
  · rw [hA]; simp [World.cell?_alloc_at]
  · rw [hA]; simp [World.cell?_alloc_at]
  · rw [hA]; simp [World.cell?_alloc_at]
  · rw [hB, World.cell?_alloc_at (hn := by simp)]; rfl
  · rw [hB, World.cell?_alloc_at (hn := by simp)]; rfl
  · rw [hB, World.cell?_alloc_at (hn := by simp)]; rfl

theorem ret_b (b : Bool) (h : b = true) : Ending.returned (.bool b) = .returned (.bool true) := by rw [h]
theorem keep3 {W w' : World} (b : Bel W w') {g : Nat} (hg : g < W.heap.size) {c0 c1 c2 : Value} (h : W.cell? ⟨g, 0, none⟩ = some c0 ∧ W.cell? ⟨g, 1, none⟩ = some c1 ∧ W.cell? ⟨g, 2, none⟩ = some c2) :
    w'.cell? ⟨g, 0, none⟩ = some c0 ∧ w'.cell? ⟨g, 1, none⟩ = some c1 ∧ w'.cell? ⟨g, 2, none⟩ = some c2 :=
  ⟨(b.cell (p := ⟨g, 0, none⟩) hg).trans h.1, (b.cell (p := ⟨g, 1, none⟩) hg).trans h.2.1, (b.cell (p := ⟨g, 2, none⟩) hg).trans h.2.2⟩
set_option maxHeartbeats 4000000 in
theorem values_case (n : Int) (s : List UInt8) (w : World) (hs : s.length ≤ maxLen) (E F : Nat) (h : (n < -1099511627776 ∧ E = 1) ∨ (1099511627776 < n ∧ E = 1) ∨ (-1099511627776 ≤ n ∧ n ≤ 1099511627776 ∧ E = 0)) (h' : (20 < s.length ∧ F = 6) ∨ (s.length ≤ 20 ∧ F = 0)) :
    Calls Try.prog 7 #[.int .i64 n, .string (M.bs s)] w fun e w' => e = .returned (.bool true) ∧ Bel w w' := by
  have hsz : (M.bs s).size = s.length := M.bs_size s
  have hE : (M.put [([], n, false)]).2 = E := by
    rw [put_one]; unfold M.chk; rw [if_neg (by simp)]
    rcases h with ⟨h, rfl⟩ | ⟨h, rfl⟩ | ⟨h, h2, rfl⟩
    · rw [if_pos (Or.inr (Or.inl h))]
    · rw [if_pos (Or.inr (Or.inr h))]
    · rw [if_neg]; rintro (h3 | h3 | h3)
      · exact h3 rfl
      · simp only at h3; omega
      · simp only at h3; omega
  have hF : (M.put [(s, 0, true)]).2 = F := by
    rw [put_one]; unfold M.chk; rw [if_pos rfl]
    rcases h' with ⟨h, rfl⟩ | ⟨h, rfl⟩
    · rw [if_pos h]
    · rw [if_neg (by simp only; omega), if_neg (by simp)]
  have H1 := fun W x hv => put_any [([], n, false)] x W hv (by simp) (by simp)
  have H2 := fun W x hv => put_any [(s, 0, true)] x W hv (by simp) (by simpa using hs)
  rw [hE] at H1
  rw [hF] at H2
  clear hE hF
  generalize M.bs (M.put [([], n, false)]).1 = S1 at *
  generalize M.bs (M.put [(s, 0, true)]).1 = S2 at *
  have k36 := eql36
  have f36 := run_eqFields36
  have g36 := guard36
  have hm : s.length ≤ 9223372036854775807 := by unfold maxLen at hs; omega
  clear hs
  have qe : (M.bs []).toList = [] := M.bs_toList []
  have C1 : cmpV ((M.bs []).data.toList, n, false) ((M.bs s).data.toList, 0, true) = -1 := rfl
  have C2 : cmpV ((M.bs s).data.toList, 0, true) ((M.bs []).data.toList, n, false) = 1 := rfl
  rcases h with ⟨h, rfl⟩ | ⟨h, rfl⟩ | ⟨h, h2, rfl⟩ <;> rcases h' with ⟨h', rfl⟩ | ⟨h', rfl⟩
  all_goals
    go_enter Try.func7, Try.ntmps7
    go_wp2_with fail
    refine (speaks_any _).mono ?_
    rintro e w1 ⟨rfl, b1⟩
    go_wp2_with fail
    refine (number_any _ _).mono ?_
    rintro e w2 ⟨rfl, b2⟩
    go_wp2_with fail
    refine (text_any _ _).mono ?_
    rintro e w3 ⟨rfl, b3⟩
    go_wp2_with fail
    refine (H1 _ _ (vals_at _ _ (by simp) _ _ _)).mono ?_
    rintro e w4 ⟨rfl, b4⟩
    obtain ⟨d, f, z4⟩ := two_boxes b4
    obtain ⟨d0, d1, d2⟩ := id d
    obtain ⟨f0, f1, f2⟩ := id f
    go_wp2_with fail
    refine (H2 _ _ (vals_one _ _ _ _)).mono ?_
    rintro e w5 ⟨rfl, b5⟩
    have b45 := Bel.tr (Bel.al (Below.refl w4.heap.size w4) _) b5
    clear d0 d1 d2 f0 f1 f2
    have d' := keep3 b45 (by omega) d
    have f' := keep3 b45 z4 f
    have z5 := Nat.lt_of_lt_of_le z4 b45.size
    clear d f
    obtain ⟨d0, d1, d2⟩ := id d'
    obtain ⟨f0, f1, f2⟩ := id f'
    go_wp2_with fail
    refine (compare_any _ _ _ _ _ _ _).mono ?_
    rintro e w6 ⟨rfl, b6⟩
    clear d0 d1 d2 f0 f1 f2
    obtain ⟨d0, d1, d2⟩ := keep3 b6 (by omega) d'
    obtain ⟨f0, f1, f2⟩ := keep3 b6 z5 f'
    go_wp2_with fail
    refine (compare_any _ _ _ _ _ _ _).mono ?_
    rintro e w7 ⟨rfl, b7⟩
    go_wp2_with fail
    go_ret
    refine ⟨ret_b _ ?_, (((((b1.tr b2).tr b3).tr (Bel.tr (Bel.al (Bel.al (Bel.al (Below.refl _ _) _) _) _) b4)).tr b45).tr b6).tr b7⟩
    first | rfl | (simp; done) | (simp; omega)

theorem values_any (n : Int) (s : ByteArray) (w : World) (hs : s.size ≤ maxLen) :
    Calls Try.prog 7 #[.int .i64 n, .string s] w fun e w' => e = .returned (.bool true) ∧ Bel w w' := by
  have hl := Lib.size_eq s
  obtain ⟨E, hE⟩ : ∃ E : Nat, (n < -1099511627776 ∧ E = 1) ∨ (1099511627776 < n ∧ E = 1) ∨ (-1099511627776 ≤ n ∧ n ≤ 1099511627776 ∧ E = 0) := by
    by_cases h1 : n < -1099511627776
    · exact ⟨1, .inl ⟨h1, rfl⟩⟩
    · by_cases h2 : 1099511627776 < n
      · exact ⟨1, .inr (.inl ⟨h2, rfl⟩)⟩
      · exact ⟨0, .inr (.inr ⟨by omega, by omega, rfl⟩)⟩
  obtain ⟨F, hF⟩ : ∃ F : Nat, (20 < s.data.toList.length ∧ F = 6) ∨ (s.data.toList.length ≤ 20 ∧ F = 0) := by
    by_cases h1 : 20 < s.data.toList.length
    · exact ⟨6, .inl ⟨h1, rfl⟩⟩
    · exact ⟨0, .inr ⟨by omega, rfl⟩⟩
  have h := values_case n s.data.toList w (by rw [← hl]; exact hs) E F hE hF
  rw [M.bs_of] at h
  exact h
end Go.Proofs.Ytfiopegkopfceaa
