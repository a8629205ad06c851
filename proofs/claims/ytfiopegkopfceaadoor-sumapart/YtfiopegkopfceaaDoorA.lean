/-
  The law SumApart, walked.
-/
import Derived.Test.YtfiopegkopfceaaDoorS
import Derived.Test.YtfiopegkopfceaaDoorN
namespace Go.Proofs.YtfiopegkopfceaaDoor
open Go.RowKit

/-- 'Open' of what was sealed. -/
theorem open_seal (l : List UInt8) (W : World) (hl : l.length ≤ 10000) (hT : Tab W) :
    Calls Tryd.prog 9 #[.string (M.bs (M.sealL l))] W fun e w' => e = .returned (.tuple #[.string (M.bs l), .int .i64 0]) ∧ Bel W w' := by
  have h := open_any (M.bs (M.sealL l)) W (by rw [M.bs_size, M.sealL_length]; unfold maxLen; omega) hT
  rw [M.bs_data, M.openL_seal] at h
  exact h
theorem seal_bs (l : List UInt8) (W : World) (hl : l.length ≤ 10000) (hT : Tab W) :
    Calls Tryd.prog 10 #[.string (M.bs l)] W fun e w' => e = .returned (.string (M.bs (M.sealL l))) ∧ Bel W w' := by
  have h := seal_any (M.bs l) W (by rw [M.bs_size]; unfold maxLen; omega) hT
  rw [M.bs_data] at h
  exact h

theorem apart_long (a b : ByteArray) (w : World) (hT : Tab w) (h : 1000 < a.size ∨ (a.size ≤ 1000 ∧ 1000 < b.size)) (ha : a.size ≤ maxLen) (hb : b.size ≤ maxLen) :
    Calls Tryd.prog 6 #[.string a, .string b] w fun e w' => e = .returned (.bool true) ∧ Bel w w' := by
  unfold maxLen at ha hb
  rcases h with h | ⟨h, h'⟩
  all_goals
    go_enter Tryd.func6, Tryd.ntmps6
    go_wp2_with fail
    refine (speaks_any _ hT).mono ?_
    rintro e w1 ⟨rfl, b1⟩
    go_wp2_with fail
    go_ret
    exact ⟨rfl, b1⟩

set_option maxHeartbeats 800000 in
theorem apart_short (l m : List UInt8) (w : World) (hT : Tab w) (ha : l.length ≤ 1000) (hb : m.length ≤ 1000) :
    Calls Tryd.prog 6 #[.string (M.bs l), .string (M.bs m)] w fun e w' => e = .returned (.bool true) ∧ Bel w w' := by
  have Ha := fun W => seal_bs l W (by omega)
  have Hb := fun W => seal_bs m W (by omega)
  have HA := fun W => seal_bs (M.sealL l) W (by rw [M.sealL_length]; omega)
  have HO := fun W => open_seal (M.sealL l) W (by rw [M.sealL_length]; omega)
  have HO2 := fun W => open_seal l W (by omega)
  have heq : ((M.bs (M.sealL l)).toList == (M.bs (M.sealL m)).toList) = ((M.bs l).toList == (M.bs m).toList) := by
    rw [M.bs_toList, M.bs_toList, M.bs_toList, M.bs_toList, M.sealL_inj]
  have za : (M.bs l).size ≤ 1000 := by rw [M.bs_size]; exact ha
  have zb : (M.bs m).size ≤ 1000 := by rw [M.bs_size]; exact hb
  clear ha hb
  generalize M.bs (M.sealL (M.sealL l)) = AA at *
  generalize M.bs (M.sealL l) = A at *
  generalize M.bs (M.sealL m) = B at *
  generalize M.bs l = a at *
  generalize M.bs m = b at *
  go_enter Tryd.func6, Tryd.ntmps6
  go_wp2_with fail
  refine (speaks_any _ hT).mono ?_
  rintro e w1 ⟨rfl, b1⟩
  have t1 := hT.bel b1
  go_wp2_with fail
  refine (Ha _ t1).mono ?_
  rintro e w2 ⟨rfl, b2⟩
  have t2 := t1.bel b2
  go_wp2_with fail
  refine (HA _ t2).mono ?_
  rintro e w3 ⟨rfl, b3⟩
  have t3 := t2.bel b3
  go_wp2_with fail
  refine (HO _ t3).mono ?_
  rintro e w4 ⟨rfl, b4⟩
  have t4 := t3.bel b4
  go_wp2_with fail
  refine (HO2 _ t4).mono ?_
  rintro e w5 ⟨rfl, b5⟩
  have t5 := t4.bel b5
  go_wp2_with fail
  refine (Ha _ t5).mono ?_
  rintro e w6 ⟨rfl, b6⟩
  have t6 := t5.bel b6
  go_wp2_with fail
  refine (Hb _ t6).mono ?_
  rintro e w7 ⟨rfl, b7⟩
  go_wp2_with fail
  go_ret
  exact ⟨rfl, (((((b1.tr b2).tr b3).tr b4).tr b5).tr b6).tr b7⟩

theorem apart_any (a b : ByteArray) (w : World) (hT : Tab w) (ha : a.size ≤ maxLen) (hb : b.size ≤ maxLen) :
    Calls Tryd.prog 6 #[.string a, .string b] w fun e w' => e = .returned (.bool true) ∧ Bel w w' := by
  by_cases h : 1000 < a.size ∨ (a.size ≤ 1000 ∧ 1000 < b.size)
  · exact apart_long a b w hT h ha hb
  · have h' := apart_short a.data.toList b.data.toList w hT (by rw [← Lib.size_eq]; omega) (by rw [← Lib.size_eq]; omega)
    rw [M.bs_of, M.bs_of] at h'
    exact h'
end Go.Proofs.YtfiopegkopfceaaDoor
