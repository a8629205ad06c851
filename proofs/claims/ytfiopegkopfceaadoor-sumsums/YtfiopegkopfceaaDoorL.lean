/-
  The laws SumSums and SumNumbers, walked.
-/
import Derived.Test.YtfiopegkopfceaaDoorA
import Derived.Test.YtfiopegkopfceaaDoorR
namespace Go.Proofs.YtfiopegkopfceaaDoor
open Go.RowKit

theorem sums_long (s : ByteArray) (w : World) (hT : Tab w) (h : 3000 < s.size) (hs : s.size ≤ maxLen) :
    Calls Tryd.prog 3 #[.string s] w fun e w' => e = .returned (.bool true) ∧ Bel w w' := by
  unfold maxLen at hs
  go_enter Tryd.func3, Tryd.ntmps3
  go_wp2_with fail
  refine (speaks_any _ hT).mono ?_
  rintro e w1 ⟨rfl, b1⟩
  go_wp2_with fail
  go_ret
  exact ⟨rfl, b1⟩

set_option maxHeartbeats 800000 in
theorem sums_short (l : List UInt8) (w : World) (hT : Tab w) (h : l.length ≤ 3000) :
    Calls Tryd.prog 3 #[.string (M.bs l)] w fun e w' => e = .returned (.bool true) ∧ Bel w w' := by
  have hz : (M.bs l).size ≤ 3000 := by rw [M.bs_size]; exact h
  have hm : (M.bs l).size ≤ maxLen := by unfold maxLen; omega
  have Hs := fun W => seal_bs l W (by omega)
  have Ho := fun W => open_seal l W (by omega)
  have Hu := fun W => open_any (M.bs l) W hm
  have Hv := fun W => ropen_any (M.bs l) W (by omega)
  have Hn := fun W => sum_any (M.bs l) W hm
  have Hr := fun W => rsum_any (M.bs l) W hm
  have Hp := fun W => rseal_any l W (by omega)
  rw [M.bs_data] at Hu Hv Hn Hr
  clear hm h
  generalize M.bs (M.sealL l) = S at *
  generalize M.sum l = n at *
  generalize M.bs (M.openL l).1 = u at *
  generalize (M.openL l).2 = f at *
  generalize M.bs l = s at *
  go_enter Tryd.func3, Tryd.ntmps3
  go_wp2_with fail
  refine (speaks_any _ hT).mono ?_
  rintro e w1 ⟨rfl, b1⟩
  have t1 := hT.bel b1
  go_wp2_with fail
  refine (Hs _ t1).mono ?_
  rintro e w2 ⟨rfl, b2⟩
  have t2 := t1.bel b2
  go_wp2_with fail
  refine (Ho _ t2).mono ?_
  rintro e w3 ⟨rfl, b3⟩
  have t3 := t2.bel b3
  go_wp2_with fail
  refine (Hu _ t3).mono ?_
  rintro e w4 ⟨rfl, b4⟩
  have t4 := t3.bel b4
  go_wp2_with fail
  refine (Hv _).mono ?_
  rintro e w5 ⟨rfl, b5⟩
  have t5 := t4.bel b5
  go_wp2_with fail
  refine (Hn _ t5).mono ?_
  rintro e w6 ⟨rfl, rfl⟩
  go_wp2_with fail
  refine (Hr _).mono ?_
  rintro e w7 ⟨rfl, rfl⟩
  go_wp2_with fail
  refine (Hs _ t5).mono ?_
  rintro e w8 ⟨rfl, b8⟩
  go_wp2_with fail
  refine (Hp _).mono ?_
  rintro e w9 ⟨rfl, b9⟩
  go_wp2_with fail
  go_ret
  exact ⟨rfl, (((((b1.tr b2).tr b3).tr b4).tr b5).tr b8).tr b9⟩

theorem sums_any (s : ByteArray) (w : World) (hT : Tab w) (hs : s.size ≤ maxLen) :
    Calls Tryd.prog 3 #[.string s] w fun e w' => e = .returned (.bool true) ∧ Bel w w' := by
  by_cases h : 3000 < s.size
  · exact sums_long s w hT h hs
  · have h' := sums_short s.data.toList w hT (by rw [← Lib.size_eq]; omega)
    rw [M.bs_of] at h'
    exact h'

/-- The first half: 'Put' and its number back. Where 'Put' answers nothing, 'Get' is not asked. -/
theorem get_put (n s : Int) (h : (M.put n s).isEmpty = false) : ((M.get (M.put n s) : Nat) : Int) = n := by
  unfold M.put at *
  split at h
  · rename_i hc
    obtain ⟨h1, h2, h3, h4⟩ := hc
    rw [if_pos ⟨h1, h2, h3, h4⟩]
    unfold M.get
    rw [if_pos (by rw [M.putL_length]; omega), M.getN_put]
    · omega
    · rw [show (2 : Nat) ^ (8 * s.toNat) = 256 ^ s.toNat by rw [Nat.pow_mul]] at h4
      exact (Nat.div_eq_zero_iff_lt (Nat.pow_pos (by decide))).1 h4
  · simp at h

set_option maxHeartbeats 800000 in
theorem numbers_any (n z : Int) (s : ByteArray) (w : World) (hT : Tab w) (hn : -9223372036854775808 ≤ n ∧ n ≤ 9223372036854775807) (hz : -9223372036854775808 ≤ z ∧ z ≤ 9223372036854775807) (hs : s.size ≤ maxLen) :
    Calls Tryd.prog 4 #[.int .i64 n, .int .i64 z, .string s] w fun e w' => e = .returned (.bool true) ∧ Bel w w' := by
  have Hp := fun W => put_any n z W hn hz
  have Hr := fun W => rput_any n z W hn
  have Hg := fun W => get_any (M.bs (M.put n z)) W (by rw [M.bs_size]; unfold M.put maxLen; split <;> simp [M.putL_length] <;> omega)
  have Hs := fun W => get_any s W hs
  have Ht := fun W => rget_any s W hs
  rw [M.bs_data] at Hg
  unfold maxLen at hs
  by_cases he : (M.put n z).isEmpty = true
  · have q : (M.bs (M.put n z)).toList = [] := by rw [M.bs_toList]; simpa using he
    generalize M.bs (M.put n z) = P at *
    by_cases h100 : 100 < s.size
    · go_enter Tryd.func4, Tryd.ntmps4
      go_wp2_with fail
      refine (speaks_any _ hT).mono ?_
      rintro e w1 ⟨rfl, b1⟩
      go_wp2_with fail
      refine (Hp _).mono ?_
      rintro e w2 ⟨rfl, b2⟩
      go_wp2_with fail
      refine (Hr _).mono ?_
      rintro e w3 ⟨rfl, b3⟩
      go_wp2_with fail
      go_ret
      exact ⟨rfl, (b1.tr b2).tr b3⟩
    · go_enter Tryd.func4, Tryd.ntmps4
      go_wp2_with fail
      refine (speaks_any _ hT).mono ?_
      rintro e w1 ⟨rfl, b1⟩
      go_wp2_with fail
      refine (Hp _).mono ?_
      rintro e w2 ⟨rfl, b2⟩
      go_wp2_with fail
      refine (Hr _).mono ?_
      rintro e w3 ⟨rfl, b3⟩
      go_wp2_with fail
      refine (Hs _).mono ?_
      rintro e w4 ⟨rfl, rfl⟩
      go_wp2_with fail
      refine (Ht _).mono ?_
      rintro e w5 ⟨rfl, rfl⟩
      go_wp2_with fail
      go_ret
      exact ⟨rfl, (b1.tr b2).tr b3⟩
  · have HN : ((M.get (M.put n z) : Nat) : Int) = n := get_put n z (by simpa using he)
    rw [HN] at Hg
    clear HN
    have q1 : (M.bs (M.put n z)).toList.isEmpty = false := by rw [M.bs_toList]; simpa using he
    have q2 : ((M.bs (M.put n z)).toList == []) = false := by rw [M.bs_toList]; simpa using he
    have q3 : ¬ (M.bs (M.put n z)).toList = [] := by rw [M.bs_toList]; simpa using he
    clear he
    generalize M.bs (M.put n z) = P at *
    by_cases h100 : 100 < s.size
    · go_enter Tryd.func4, Tryd.ntmps4
      go_wp2_with fail
      refine (speaks_any _ hT).mono ?_
      rintro e w1 ⟨rfl, b1⟩
      go_wp2_with fail
      refine (Hp _).mono ?_
      rintro e w2 ⟨rfl, b2⟩
      go_wp2_with fail
      refine (Hr _).mono ?_
      rintro e w3 ⟨rfl, b3⟩
      go_wp2_with fail
      refine (Hg _).mono ?_
      rintro e w4 ⟨rfl, rfl⟩
      go_wp2_with fail
      go_ret
      exact ⟨rfl, (b1.tr b2).tr b3⟩
    · go_enter Tryd.func4, Tryd.ntmps4
      go_wp2_with fail
      refine (speaks_any _ hT).mono ?_
      rintro e w1 ⟨rfl, b1⟩
      go_wp2_with fail
      refine (Hp _).mono ?_
      rintro e w2 ⟨rfl, b2⟩
      go_wp2_with fail
      refine (Hr _).mono ?_
      rintro e w3 ⟨rfl, b3⟩
      go_wp2_with fail
      refine (Hg _).mono ?_
      rintro e w4 ⟨rfl, rfl⟩
      go_wp2_with fail
      refine (Hs _).mono ?_
      rintro e w5 ⟨rfl, rfl⟩
      go_wp2_with fail
      refine (Ht _).mono ?_
      rintro e w6 ⟨rfl, rfl⟩
      go_wp2_with fail
      go_ret
      exact ⟨rfl, (b1.tr b2).tr b3⟩
end Go.Proofs.YtfiopegkopfceaaDoor
