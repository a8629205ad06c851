/-
  The law PatchDiffs, walked.
-/
import Derived.Test.YtnfbpfejogkcnaaF
import Derived.Test.YtnfbpfejogkcnaaG
import Derived.Test.YtnfbpfejogkcnaaRD
import Derived.Test.YtnfbpfejogkcnaaLB
namespace Go.Proofs.Ytnfbpfejogkcnaa
open Go.RowKit

def tot : List (Nat × Nat) → Nat
  | [] => 0
  | p :: R => (p.2 - p.1) + tot R
theorem tot_le (R : List (Nat × Nat)) : ∀ m, (∀ p ∈ R, p.1 < p.2 ∧ p.2 ≤ m) → R.Pairwise (fun q p => p.2 ≤ q.1) → tot R ≤ m := by
  induction R with
  | nil => intro m _ _; exact Nat.zero_le _
  | cons p R ih =>
    intro m h hp
    rw [List.pairwise_cons] at hp
    have h1 := ih p.1 (fun q hq => ⟨(h q (by simp [hq])).1, hp.1 q hq⟩) hp.2
    have h2 := h p (by simp)
    simp only [tot]; omega
theorem pcs_bytes (b : List UInt8) (hb : b.length ≤ 65535) (R : List (Nat × Nat)) (h : ∀ p ∈ R, p.1 < p.2 ∧ p.2 ≤ b.length) : ((M.pcs b R).flatMap M.one).length = 4 * R.length + tot R := by
  induction R with
  | nil => rfl
  | cons p R ih =>
    have hp := h p (by simp)
    have hl := M.pc_length b p hp.2 hp.1
    have h1 : (M.one (M.pc b p)).length = 4 + (M.pc b p).2.length := M.one_length (M.pc b p) (by simp [M.pc]) (by simp only [M.pc]; omega) (by omega)
    rw [M.pcs_cons, List.flatMap_append, List.length_append, ih (fun q hq => h q (by simp [hq]))]
    simp only [List.flatMap_cons, List.flatMap_nil, List.append_nil, h1, hl, tot, List.length_cons]; omega
theorem putP_diff (a b : List UInt8) (n : Nat) (hb : b.length ≤ n) : (M.putP (M.diff a b)).length ≤ 2 + 5 * n := by
  have hr := M.diff_right a b
  have hl := M.diff_length a b
  unfold M.putP
  rw [if_pos ⟨hr, hl.2⟩, List.length_append, M.put_two_len _ (by omega) (by omega)]
  unfold M.diff
  split
  · rename_i h
    obtain ⟨h1, h2⟩ := M.ivs_ok (M.dif a b) b.length
    have h3 : ∀ p ∈ M.ivs (M.dif a b) b.length, p.1 < p.2 ∧ p.2 ≤ b.length := fun p hp => ⟨(h1 p hp).1, (h1 p hp).2.1⟩
    rw [pcs_bytes b h.2 _ h3]
    have := tot_le _ _ h3 h2
    have := M.ivs_length (M.dif a b) b.length
    omega
  · simp

theorem diffs_long (a b : List UInt8) (w : World) (h : 1000 < a.length ∨ (a.length ≤ 1000 ∧ 1000 < b.length)) :
    Calls Try.prog 3 #[.string (M.bs a), .string (M.bs b)] w fun e w' => e = .returned (.bool true) ∧ Bel w w' := by
  have za : (M.bs a).size = a.length := M.bs_size a
  have zb : (M.bs b).size = b.length := M.bs_size b
  rcases h with h | ⟨h, h2⟩
  all_goals
    go_enter Try.func3, Try.ntmps3
    go_wp2_with fail
    refine (speaks_any _).mono ?_
    rintro e w1 ⟨rfl, b1⟩
    go_wp2_with fail
    go_ret
    exact ⟨rfl, b1⟩

set_option maxHeartbeats 4000000 in
theorem diffs_short (a b : List UInt8) (w : World) (ha : a.length ≤ 1000) (hb : b.length ≤ 1000) :
    Calls Try.prog 3 #[.string (M.bs a), .string (M.bs b)] w fun e w' => e = .returned (.bool true) ∧ Bel w w' := by
  have za : (M.bs a).size = a.length := M.bs_size a
  have zb : (M.bs b).size = b.length := M.bs_size b
  have hr := M.diff_right a b
  have hl := M.diff_length a b
  have hp := putP_diff a b 1000 hb
  have hsm := diff_small a b 1000 hb
  have H1 := fun W => diff_any a b W (by omega) (by omega)
  have H2 := fun W => rdiff_any a b W
  have H3 := fun x y W hx hy => same_any (M.diff a b) (M.diff a b) x y W hx hy (by omega)
  rw [decide_eq_true rfl] at H3
  have H4 := fun x W hv => apply_any a (M.diff a b) x W hv (by omega) (fun p hp => by have := hsm p hp; omega) (by omega)
  have H5 := fun x W hv => putP_any (M.diff a b) x W hv (by omega) (fun p hp => by have := hsm p hp; omega)
  have H6 := fun W => getP_any (M.putP (M.diff a b) ++ [120]) W (by simp; omega)
  rw [M.getP_putP _ _ hr hl.2] at H6
  have hx : M.bs (M.putP (M.diff a b) ++ [120]) = M.bs (M.putP (M.diff a b)) ++ ⟨#[120]⟩ := (M.bs_append _ _).symm
  rw [hx] at H6
  have hzp : (M.bs (M.putP (M.diff a b))).size = (M.putP (M.diff a b)).length := M.bs_size _
  have hAp : (M.apply a (M.diff a b)).2 = 0 ∧ (((M.bs (M.apply a (M.diff a b)).1).toList == (M.bs b).toList) = true ∨ (((M.bs (M.apply a (M.diff a b)).1).toList == (M.bs b).toList) = false ∧ ((a.length : Int) != (b.length : Int)) = true)) := by
    by_cases he : a.length = b.length
    · rw [M.apply_diff a b he (by omega)]
      exact ⟨rfl, .inl (by simp)⟩
    · rw [M.diff_other a b he, M.apply_none]
      refine ⟨rfl, .inr ⟨?_, by rw [bne_iff_ne]; omega⟩⟩
      rw [M.bs_toList, M.bs_toList, beq_eq_false_iff_ne]
      exact fun e => he (congrArg List.length e)
  obtain ⟨hA0, hA⟩ := hAp
  rw [hA0] at H4
  clear hA0 hx hr hsm
  generalize M.bs (M.apply a (M.diff a b)).1 = AP at *
  generalize M.diff a b = L at *
  generalize M.bs (M.putP L) = PB at *
  generalize (M.putP L).length = n at *
  have qn : (((n : Nat) : Int) == (n : Int)) = true := by simp
  have ql : (((L.length : Nat) : Int) == (L.length : Int)) = true := by simp
  rcases hA with hA | ⟨hA, hA2⟩
  all_goals
    go_enter Try.func3, Try.ntmps3
    go_wp2_with fail
    refine (speaks_any _).mono ?_
    rintro e w1 ⟨rfl, b1⟩
    go_wp2_with fail
    refine (H1 _).mono ?_
    rintro e w2 ⟨v, rfl, o2, b2⟩
    go_wp2_with fail
    refine (H2 _).mono ?_
    rintro e w3 ⟨v3, rfl, o3, b3⟩
    go_wp2_with fail
    refine (H3 _ _ _ (o2.bel b3).vals o3.vals).mono ?_
    rintro e w4 ⟨rfl, b4⟩
    clear o3
    have o4 := (o2.bel b3).bel b4
    clear o2
    go_wp2_with fail
    refine (H4 _ _ o4.vals).mono ?_
    rintro e w5 ⟨rfl, b5⟩
    have o5 := o4.bel b5
    clear o4
    go_wp2_with fail
    refine (H5 _ _ o5.vals).mono ?_
    rintro e w6 ⟨rfl, b6⟩
    have o6 := o5.bel b6
    clear o5
    go_wp2_with fail
    refine (H6 _).mono ?_
    rintro e w7 ⟨x7, rfl, o7, b7⟩
    have o8 := o6.bel b7
    clear o6
    obtain ⟨ao, cap, rfl, _⟩ := id o8.vals
    obtain ⟨ao2, cap2, rfl, _⟩ := id o7.vals
    clear o7
    go_wp2_with fail
    refine (H5 _ _ o8.vals).mono ?_
    rintro e w8 ⟨rfl, b8⟩
    clear o8
    go_wp2_with fail
    go_ret
    exact ⟨rfl, ((((((b1.tr b2).tr b3).tr b4).tr b5).tr b6).tr b7).tr b8⟩
theorem diffs_any (a b : ByteArray) (w : World) (_ha : a.size ≤ maxLen) (_hb : b.size ≤ maxLen) :
    Calls Try.prog 3 #[.string a, .string b] w fun e w' => e = .returned (.bool true) ∧ Bel w w' := by
  rw [← M.bs_of a, ← M.bs_of b]
  generalize a.data.toList = a
  generalize b.data.toList = b
  by_cases h : 1000 < a.length ∨ (a.length ≤ 1000 ∧ 1000 < b.length)
  · exact diffs_long a b w h
  · exact diffs_short a b w (by omega) (by omega)
end Go.Proofs.Ytnfbpfejogkcnaa
