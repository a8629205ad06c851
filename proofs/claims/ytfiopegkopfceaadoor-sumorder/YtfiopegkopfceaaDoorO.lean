/-
  The law SumOrder, walked: one theorem a size (made by program out of one text).
-/
import Derived.Test.YtfiopegkopfceaaDoorS
import Derived.Test.YtfiopegkopfceaaDoorN
import Derived.Deep.QuietTactic
import Derived.BigQuiet
namespace Go.Proofs.YtfiopegkopfceaaDoor
open Go.RowKit

set_option maxHeartbeats 800000 in
theorem order_1 (a b s : Int) (w : World) (hT : Tab w)
    (m : Int) (hm : s.tmod 7 = m) (h1 : -6 ≤ m) (h2 : m ≤ 6) (hz : m % 7 = 0) :
    Calls Tryd.prog 7 #[.int .i64 a, .int .i64 b, .int .i64 s] w fun e w' => e = .returned (.bool true) ∧ Bel w w' := by
  obtain ⟨A, hA⟩ : ∃ A : Nat, a % 256 = (A : Int) := Int.eq_ofNat_of_zero_le (by omega)
  obtain ⟨B, hB⟩ : ∃ B : Nat, b % 256 = (B : Int) := Int.eq_ofNat_of_zero_le (by omega)
  have lA : A < 256 := by omega
  have lB : B < 256 := by omega
  have eA : bits .and .i64 a 255 = (A : Int) := (M.i64_mask a 8 (by decide)).trans hA
  have eB : bits .and .i64 b 255 = (B : Int) := (M.i64_mask b 8 (by decide)).trans hB
  clear hA hB
  have HA : ∀ W, Calls Tryd.prog 15 #[.int .i64 (A : Int), .int .i64 1] W fun e w' => e = .returned (.string (M.bs (M.putL 1 A))) ∧ Bel W w' := fun W => put_yes A 1 W (by decide) (by decide) (by omega) (by omega)
  have HB : ∀ W, Calls Tryd.prog 15 #[.int .i64 (B : Int), .int .i64 1] W fun e w' => e = .returned (.string (M.bs (M.putL 1 B))) ∧ Bel W w' := fun W => put_yes B 1 W (by decide) (by decide) (by omega) (by omega)
  have hl : Op.bytesLess (M.bs (M.putL 1 A)).toList (M.bs (M.putL 1 B)).toList = decide ((A : Int) < (B : Int)) := by
    rw [M.bs_toList, M.bs_toList, M.putL_less 1 A B lA lB, decide_eq_decide]; omega
  have he : ((M.bs (M.putL 1 A)).toList == (M.bs (M.putL 1 B)).toList) = ((A : Int) == (B : Int)) := by
    rw [M.bs_toList, M.bs_toList, M.putL_eq 1 A B lA lB, Bool.eq_iff_iff, decide_eq_true_eq, beq_iff_eq]; omega
  have sA : (M.bs (M.putL 1 A)).size = 1 := by rw [M.bs_size, M.putL_length]
  have sB : (M.bs (M.putL 1 B)).size = 1 := by rw [M.bs_size, M.putL_length]
  generalize M.bs (M.putL 1 A) = S at *
  generalize M.bs (M.putL 1 B) = T at *
  go_enter Tryd.func7, Tryd.ntmps7
  go_wp2_with fail
  refine (speaks_any _ hT).mono ?_
  rintro e w1 ⟨rfl, b1⟩
  go_wp2_with fail
  go_quiet (fail)
  go_wp2_with fail
  refine (HA _).mono ?_
  rintro e w2 ⟨rfl, b2⟩
  go_wp2_with fail
  refine (HB _).mono ?_
  rintro e w3 ⟨rfl, b3⟩
  go_wp2_with fail
  go_ret
  exact ⟨rfl, ((Bel.tr b1 (below_drewN (Below.refl _ _) _)).tr b2).tr b3⟩

set_option maxHeartbeats 800000 in
theorem order_2 (a b s : Int) (w : World) (hT : Tab w)
    (m : Int) (hm : s.tmod 7 = m) (h1 : -6 ≤ m) (h2 : m ≤ 6) (hz : m % 7 = 1) :
    Calls Tryd.prog 7 #[.int .i64 a, .int .i64 b, .int .i64 s] w fun e w' => e = .returned (.bool true) ∧ Bel w w' := by
  obtain ⟨A, hA⟩ : ∃ A : Nat, a % 65536 = (A : Int) := Int.eq_ofNat_of_zero_le (by omega)
  obtain ⟨B, hB⟩ : ∃ B : Nat, b % 65536 = (B : Int) := Int.eq_ofNat_of_zero_le (by omega)
  have lA : A < 65536 := by omega
  have lB : B < 65536 := by omega
  have eA : bits .and .i64 a 65535 = (A : Int) := (M.i64_mask a 16 (by decide)).trans hA
  have eB : bits .and .i64 b 65535 = (B : Int) := (M.i64_mask b 16 (by decide)).trans hB
  clear hA hB
  have HA : ∀ W, Calls Tryd.prog 15 #[.int .i64 (A : Int), .int .i64 2] W fun e w' => e = .returned (.string (M.bs (M.putL 2 A))) ∧ Bel W w' := fun W => put_yes A 2 W (by decide) (by decide) (by omega) (by omega)
  have HB : ∀ W, Calls Tryd.prog 15 #[.int .i64 (B : Int), .int .i64 2] W fun e w' => e = .returned (.string (M.bs (M.putL 2 B))) ∧ Bel W w' := fun W => put_yes B 2 W (by decide) (by decide) (by omega) (by omega)
  have hl : Op.bytesLess (M.bs (M.putL 2 A)).toList (M.bs (M.putL 2 B)).toList = decide ((A : Int) < (B : Int)) := by
    rw [M.bs_toList, M.bs_toList, M.putL_less 2 A B lA lB, decide_eq_decide]; omega
  have he : ((M.bs (M.putL 2 A)).toList == (M.bs (M.putL 2 B)).toList) = ((A : Int) == (B : Int)) := by
    rw [M.bs_toList, M.bs_toList, M.putL_eq 2 A B lA lB, Bool.eq_iff_iff, decide_eq_true_eq, beq_iff_eq]; omega
  have sA : (M.bs (M.putL 2 A)).size = 2 := by rw [M.bs_size, M.putL_length]
  have sB : (M.bs (M.putL 2 B)).size = 2 := by rw [M.bs_size, M.putL_length]
  generalize M.bs (M.putL 2 A) = S at *
  generalize M.bs (M.putL 2 B) = T at *
  go_enter Tryd.func7, Tryd.ntmps7
  go_wp2_with fail
  refine (speaks_any _ hT).mono ?_
  rintro e w1 ⟨rfl, b1⟩
  go_wp2_with fail
  go_quiet (fail)
  go_wp2_with fail
  refine (HA _).mono ?_
  rintro e w2 ⟨rfl, b2⟩
  go_wp2_with fail
  refine (HB _).mono ?_
  rintro e w3 ⟨rfl, b3⟩
  go_wp2_with fail
  go_ret
  exact ⟨rfl, ((Bel.tr b1 (below_drewN (Below.refl _ _) _)).tr b2).tr b3⟩

set_option maxHeartbeats 800000 in
theorem order_3 (a b s : Int) (w : World) (hT : Tab w)
    (m : Int) (hm : s.tmod 7 = m) (h1 : -6 ≤ m) (h2 : m ≤ 6) (hz : m % 7 = 2) :
    Calls Tryd.prog 7 #[.int .i64 a, .int .i64 b, .int .i64 s] w fun e w' => e = .returned (.bool true) ∧ Bel w w' := by
  obtain ⟨A, hA⟩ : ∃ A : Nat, a % 16777216 = (A : Int) := Int.eq_ofNat_of_zero_le (by omega)
  obtain ⟨B, hB⟩ : ∃ B : Nat, b % 16777216 = (B : Int) := Int.eq_ofNat_of_zero_le (by omega)
  have lA : A < 16777216 := by omega
  have lB : B < 16777216 := by omega
  have eA : bits .and .i64 a 16777215 = (A : Int) := (M.i64_mask a 24 (by decide)).trans hA
  have eB : bits .and .i64 b 16777215 = (B : Int) := (M.i64_mask b 24 (by decide)).trans hB
  clear hA hB
  have HA : ∀ W, Calls Tryd.prog 15 #[.int .i64 (A : Int), .int .i64 3] W fun e w' => e = .returned (.string (M.bs (M.putL 3 A))) ∧ Bel W w' := fun W => put_yes A 3 W (by decide) (by decide) (by omega) (by omega)
  have HB : ∀ W, Calls Tryd.prog 15 #[.int .i64 (B : Int), .int .i64 3] W fun e w' => e = .returned (.string (M.bs (M.putL 3 B))) ∧ Bel W w' := fun W => put_yes B 3 W (by decide) (by decide) (by omega) (by omega)
  have hl : Op.bytesLess (M.bs (M.putL 3 A)).toList (M.bs (M.putL 3 B)).toList = decide ((A : Int) < (B : Int)) := by
    rw [M.bs_toList, M.bs_toList, M.putL_less 3 A B lA lB, decide_eq_decide]; omega
  have he : ((M.bs (M.putL 3 A)).toList == (M.bs (M.putL 3 B)).toList) = ((A : Int) == (B : Int)) := by
    rw [M.bs_toList, M.bs_toList, M.putL_eq 3 A B lA lB, Bool.eq_iff_iff, decide_eq_true_eq, beq_iff_eq]; omega
  have sA : (M.bs (M.putL 3 A)).size = 3 := by rw [M.bs_size, M.putL_length]
  have sB : (M.bs (M.putL 3 B)).size = 3 := by rw [M.bs_size, M.putL_length]
  generalize M.bs (M.putL 3 A) = S at *
  generalize M.bs (M.putL 3 B) = T at *
  go_enter Tryd.func7, Tryd.ntmps7
  go_wp2_with fail
  refine (speaks_any _ hT).mono ?_
  rintro e w1 ⟨rfl, b1⟩
  go_wp2_with fail
  go_quiet (fail)
  go_wp2_with fail
  refine (HA _).mono ?_
  rintro e w2 ⟨rfl, b2⟩
  go_wp2_with fail
  refine (HB _).mono ?_
  rintro e w3 ⟨rfl, b3⟩
  go_wp2_with fail
  go_ret
  exact ⟨rfl, ((Bel.tr b1 (below_drewN (Below.refl _ _) _)).tr b2).tr b3⟩

set_option maxHeartbeats 800000 in
theorem order_4 (a b s : Int) (w : World) (hT : Tab w)
    (m : Int) (hm : s.tmod 7 = m) (h1 : -6 ≤ m) (h2 : m ≤ 6) (hz : m % 7 = 3) :
    Calls Tryd.prog 7 #[.int .i64 a, .int .i64 b, .int .i64 s] w fun e w' => e = .returned (.bool true) ∧ Bel w w' := by
  obtain ⟨A, hA⟩ : ∃ A : Nat, a % 4294967296 = (A : Int) := Int.eq_ofNat_of_zero_le (by omega)
  obtain ⟨B, hB⟩ : ∃ B : Nat, b % 4294967296 = (B : Int) := Int.eq_ofNat_of_zero_le (by omega)
  have lA : A < 4294967296 := by omega
  have lB : B < 4294967296 := by omega
  have eA : bits .and .i64 a 4294967295 = (A : Int) := (M.i64_mask a 32 (by decide)).trans hA
  have eB : bits .and .i64 b 4294967295 = (B : Int) := (M.i64_mask b 32 (by decide)).trans hB
  clear hA hB
  have HA : ∀ W, Calls Tryd.prog 15 #[.int .i64 (A : Int), .int .i64 4] W fun e w' => e = .returned (.string (M.bs (M.putL 4 A))) ∧ Bel W w' := fun W => put_yes A 4 W (by decide) (by decide) (by omega) (by omega)
  have HB : ∀ W, Calls Tryd.prog 15 #[.int .i64 (B : Int), .int .i64 4] W fun e w' => e = .returned (.string (M.bs (M.putL 4 B))) ∧ Bel W w' := fun W => put_yes B 4 W (by decide) (by decide) (by omega) (by omega)
  have hl : Op.bytesLess (M.bs (M.putL 4 A)).toList (M.bs (M.putL 4 B)).toList = decide ((A : Int) < (B : Int)) := by
    rw [M.bs_toList, M.bs_toList, M.putL_less 4 A B lA lB, decide_eq_decide]; omega
  have he : ((M.bs (M.putL 4 A)).toList == (M.bs (M.putL 4 B)).toList) = ((A : Int) == (B : Int)) := by
    rw [M.bs_toList, M.bs_toList, M.putL_eq 4 A B lA lB, Bool.eq_iff_iff, decide_eq_true_eq, beq_iff_eq]; omega
  have sA : (M.bs (M.putL 4 A)).size = 4 := by rw [M.bs_size, M.putL_length]
  have sB : (M.bs (M.putL 4 B)).size = 4 := by rw [M.bs_size, M.putL_length]
  generalize M.bs (M.putL 4 A) = S at *
  generalize M.bs (M.putL 4 B) = T at *
  go_enter Tryd.func7, Tryd.ntmps7
  go_wp2_with fail
  refine (speaks_any _ hT).mono ?_
  rintro e w1 ⟨rfl, b1⟩
  go_wp2_with fail
  go_quiet (fail)
  go_wp2_with fail
  refine (HA _).mono ?_
  rintro e w2 ⟨rfl, b2⟩
  go_wp2_with fail
  refine (HB _).mono ?_
  rintro e w3 ⟨rfl, b3⟩
  go_wp2_with fail
  go_ret
  exact ⟨rfl, ((Bel.tr b1 (below_drewN (Below.refl _ _) _)).tr b2).tr b3⟩

set_option maxHeartbeats 800000 in
theorem order_5 (a b s : Int) (w : World) (hT : Tab w)
    (m : Int) (hm : s.tmod 7 = m) (h1 : -6 ≤ m) (h2 : m ≤ 6) (hz : m % 7 = 4) :
    Calls Tryd.prog 7 #[.int .i64 a, .int .i64 b, .int .i64 s] w fun e w' => e = .returned (.bool true) ∧ Bel w w' := by
  obtain ⟨A, hA⟩ : ∃ A : Nat, a % 1099511627776 = (A : Int) := Int.eq_ofNat_of_zero_le (by omega)
  obtain ⟨B, hB⟩ : ∃ B : Nat, b % 1099511627776 = (B : Int) := Int.eq_ofNat_of_zero_le (by omega)
  have lA : A < 1099511627776 := by omega
  have lB : B < 1099511627776 := by omega
  have eA : bits .and .i64 a 1099511627775 = (A : Int) := (M.i64_mask a 40 (by decide)).trans hA
  have eB : bits .and .i64 b 1099511627775 = (B : Int) := (M.i64_mask b 40 (by decide)).trans hB
  clear hA hB
  have HA : ∀ W, Calls Tryd.prog 15 #[.int .i64 (A : Int), .int .i64 5] W fun e w' => e = .returned (.string (M.bs (M.putL 5 A))) ∧ Bel W w' := fun W => put_yes A 5 W (by decide) (by decide) (by omega) (by omega)
  have HB : ∀ W, Calls Tryd.prog 15 #[.int .i64 (B : Int), .int .i64 5] W fun e w' => e = .returned (.string (M.bs (M.putL 5 B))) ∧ Bel W w' := fun W => put_yes B 5 W (by decide) (by decide) (by omega) (by omega)
  have hl : Op.bytesLess (M.bs (M.putL 5 A)).toList (M.bs (M.putL 5 B)).toList = decide ((A : Int) < (B : Int)) := by
    rw [M.bs_toList, M.bs_toList, M.putL_less 5 A B lA lB, decide_eq_decide]; omega
  have he : ((M.bs (M.putL 5 A)).toList == (M.bs (M.putL 5 B)).toList) = ((A : Int) == (B : Int)) := by
    rw [M.bs_toList, M.bs_toList, M.putL_eq 5 A B lA lB, Bool.eq_iff_iff, decide_eq_true_eq, beq_iff_eq]; omega
  have sA : (M.bs (M.putL 5 A)).size = 5 := by rw [M.bs_size, M.putL_length]
  have sB : (M.bs (M.putL 5 B)).size = 5 := by rw [M.bs_size, M.putL_length]
  generalize M.bs (M.putL 5 A) = S at *
  generalize M.bs (M.putL 5 B) = T at *
  go_enter Tryd.func7, Tryd.ntmps7
  go_wp2_with fail
  refine (speaks_any _ hT).mono ?_
  rintro e w1 ⟨rfl, b1⟩
  go_wp2_with fail
  go_quiet (fail)
  go_wp2_with fail
  refine (HA _).mono ?_
  rintro e w2 ⟨rfl, b2⟩
  go_wp2_with fail
  refine (HB _).mono ?_
  rintro e w3 ⟨rfl, b3⟩
  go_wp2_with fail
  go_ret
  exact ⟨rfl, ((Bel.tr b1 (below_drewN (Below.refl _ _) _)).tr b2).tr b3⟩

set_option maxHeartbeats 800000 in
theorem order_6 (a b s : Int) (w : World) (hT : Tab w)
    (m : Int) (hm : s.tmod 7 = m) (h1 : -6 ≤ m) (h2 : m ≤ 6) (hz : m % 7 = 5) :
    Calls Tryd.prog 7 #[.int .i64 a, .int .i64 b, .int .i64 s] w fun e w' => e = .returned (.bool true) ∧ Bel w w' := by
  obtain ⟨A, hA⟩ : ∃ A : Nat, a % 281474976710656 = (A : Int) := Int.eq_ofNat_of_zero_le (by omega)
  obtain ⟨B, hB⟩ : ∃ B : Nat, b % 281474976710656 = (B : Int) := Int.eq_ofNat_of_zero_le (by omega)
  have lA : A < 281474976710656 := by omega
  have lB : B < 281474976710656 := by omega
  have eA : bits .and .i64 a 281474976710655 = (A : Int) := (M.i64_mask a 48 (by decide)).trans hA
  have eB : bits .and .i64 b 281474976710655 = (B : Int) := (M.i64_mask b 48 (by decide)).trans hB
  clear hA hB
  have HA : ∀ W, Calls Tryd.prog 15 #[.int .i64 (A : Int), .int .i64 6] W fun e w' => e = .returned (.string (M.bs (M.putL 6 A))) ∧ Bel W w' := fun W => put_yes A 6 W (by decide) (by decide) (by omega) (by omega)
  have HB : ∀ W, Calls Tryd.prog 15 #[.int .i64 (B : Int), .int .i64 6] W fun e w' => e = .returned (.string (M.bs (M.putL 6 B))) ∧ Bel W w' := fun W => put_yes B 6 W (by decide) (by decide) (by omega) (by omega)
  have hl : Op.bytesLess (M.bs (M.putL 6 A)).toList (M.bs (M.putL 6 B)).toList = decide ((A : Int) < (B : Int)) := by
    rw [M.bs_toList, M.bs_toList, M.putL_less 6 A B lA lB, decide_eq_decide]; omega
  have he : ((M.bs (M.putL 6 A)).toList == (M.bs (M.putL 6 B)).toList) = ((A : Int) == (B : Int)) := by
    rw [M.bs_toList, M.bs_toList, M.putL_eq 6 A B lA lB, Bool.eq_iff_iff, decide_eq_true_eq, beq_iff_eq]; omega
  have sA : (M.bs (M.putL 6 A)).size = 6 := by rw [M.bs_size, M.putL_length]
  have sB : (M.bs (M.putL 6 B)).size = 6 := by rw [M.bs_size, M.putL_length]
  generalize M.bs (M.putL 6 A) = S at *
  generalize M.bs (M.putL 6 B) = T at *
  go_enter Tryd.func7, Tryd.ntmps7
  go_wp2_with fail
  refine (speaks_any _ hT).mono ?_
  rintro e w1 ⟨rfl, b1⟩
  go_wp2_with fail
  go_quiet (fail)
  go_wp2_with fail
  refine (HA _).mono ?_
  rintro e w2 ⟨rfl, b2⟩
  go_wp2_with fail
  refine (HB _).mono ?_
  rintro e w3 ⟨rfl, b3⟩
  go_wp2_with fail
  go_ret
  exact ⟨rfl, ((Bel.tr b1 (below_drewN (Below.refl _ _) _)).tr b2).tr b3⟩

set_option maxHeartbeats 800000 in
theorem order_7 (a b s : Int) (w : World) (hT : Tab w)
    (m : Int) (hm : s.tmod 7 = m) (h1 : -6 ≤ m) (h2 : m ≤ 6) (hz : m % 7 = 6) :
    Calls Tryd.prog 7 #[.int .i64 a, .int .i64 b, .int .i64 s] w fun e w' => e = .returned (.bool true) ∧ Bel w w' := by
  obtain ⟨A, hA⟩ : ∃ A : Nat, a % 72057594037927936 = (A : Int) := Int.eq_ofNat_of_zero_le (by omega)
  obtain ⟨B, hB⟩ : ∃ B : Nat, b % 72057594037927936 = (B : Int) := Int.eq_ofNat_of_zero_le (by omega)
  have lA : A < 72057594037927936 := by omega
  have lB : B < 72057594037927936 := by omega
  have eA : bits .and .i64 a 72057594037927935 = (A : Int) := (M.i64_mask a 56 (by decide)).trans hA
  have eB : bits .and .i64 b 72057594037927935 = (B : Int) := (M.i64_mask b 56 (by decide)).trans hB
  clear hA hB
  have HA : ∀ W, Calls Tryd.prog 15 #[.int .i64 (A : Int), .int .i64 7] W fun e w' => e = .returned (.string (M.bs (M.putL 7 A))) ∧ Bel W w' := fun W => put_yes A 7 W (by decide) (by decide) (by omega) (by omega)
  have HB : ∀ W, Calls Tryd.prog 15 #[.int .i64 (B : Int), .int .i64 7] W fun e w' => e = .returned (.string (M.bs (M.putL 7 B))) ∧ Bel W w' := fun W => put_yes B 7 W (by decide) (by decide) (by omega) (by omega)
  have hl : Op.bytesLess (M.bs (M.putL 7 A)).toList (M.bs (M.putL 7 B)).toList = decide ((A : Int) < (B : Int)) := by
    rw [M.bs_toList, M.bs_toList, M.putL_less 7 A B lA lB, decide_eq_decide]; omega
  have he : ((M.bs (M.putL 7 A)).toList == (M.bs (M.putL 7 B)).toList) = ((A : Int) == (B : Int)) := by
    rw [M.bs_toList, M.bs_toList, M.putL_eq 7 A B lA lB, Bool.eq_iff_iff, decide_eq_true_eq, beq_iff_eq]; omega
  have sA : (M.bs (M.putL 7 A)).size = 7 := by rw [M.bs_size, M.putL_length]
  have sB : (M.bs (M.putL 7 B)).size = 7 := by rw [M.bs_size, M.putL_length]
  generalize M.bs (M.putL 7 A) = S at *
  generalize M.bs (M.putL 7 B) = T at *
  go_enter Tryd.func7, Tryd.ntmps7
  go_wp2_with fail
  refine (speaks_any _ hT).mono ?_
  rintro e w1 ⟨rfl, b1⟩
  go_wp2_with fail
  go_quiet (fail)
  go_wp2_with fail
  refine (HA _).mono ?_
  rintro e w2 ⟨rfl, b2⟩
  go_wp2_with fail
  refine (HB _).mono ?_
  rintro e w3 ⟨rfl, b3⟩
  go_wp2_with fail
  go_ret
  exact ⟨rfl, ((Bel.tr b1 (below_drewN (Below.refl _ _) _)).tr b2).tr b3⟩

theorem order_any (a b s : Int) (w : World) (hT : Tab w) :
    Calls Tryd.prog 7 #[.int .i64 a, .int .i64 b, .int .i64 s] w fun e w' => e = .returned (.bool true) ∧ Bel w w' := by
  obtain ⟨m, hm⟩ : ∃ m, s.tmod 7 = m := ⟨_, rfl⟩
  have h1 : -6 ≤ m ∧ m ≤ 6 := by
    rw [← hm]
    have := Int.tmod_lt_of_pos s (show (0 : Int) < 7 by decide)
    have := Int.lt_tmod_of_pos s (show (0 : Int) < 7 by decide)
    omega
  rcases (show m % 7 = 0 ∨ m % 7 = 1 ∨ m % 7 = 2 ∨ m % 7 = 3 ∨ m % 7 = 4 ∨ m % 7 = 5 ∨ m % 7 = 6 by omega) with h | h | h | h | h | h | h
  · exact order_1 a b s w hT m hm h1.1 h1.2 h
  · exact order_2 a b s w hT m hm h1.1 h1.2 h
  · exact order_3 a b s w hT m hm h1.1 h1.2 h
  · exact order_4 a b s w hT m hm h1.1 h1.2 h
  · exact order_5 a b s w hT m hm h1.1 h1.2 h
  · exact order_6 a b s w hT m hm h1.1 h1.2 h
  · exact order_7 a b s w hT m hm h1.1 h1.2 h

end Go.Proofs.YtfiopegkopfceaaDoor
