/-
  The contract of the laws' 'speaks', walked.
-/
import Derived.Test.YtfiopegkopfceaaDoorV
namespace Go.Proofs.YtfiopegkopfceaaDoor
open Go.RowKit

theorem sp10 (W : World) (hT : Tab W) : Calls Tryd.prog 10 #[.string ⟨#[97, 98]⟩] W fun e w' => e = .returned (.string (M.bs (M.sealL [97, 98]))) ∧ Bel W w' :=
  seal_any ⟨#[97, 98]⟩ W (by unfold maxLen; decide) hT
theorem sp9 (W : World) (hT : Tab W) : Calls Tryd.prog 9 #[.string (M.bs (M.sealL [97, 98]))] W fun e w' => e = .returned (.tuple #[.string ⟨#[97, 98]⟩, .int .i64 0]) ∧ Bel W w' := by
  have h := open_any (M.bs (M.sealL [97, 98])) W (by rw [M.bs_size, M.sealL_length]; unfold maxLen; decide) hT
  have e : M.openL (M.bs (M.sealL [97, 98])).data.toList = ([97, 98], 0) := by decide +kernel
  rw [e] at h
  exact h
theorem sp12 (W : World) (hT : Tab W) : Calls Tryd.prog 12 #[.string ⟨#[49, 50, 51, 52, 53, 54, 55, 56, 57]⟩] W fun e w' => e = .returned (.int .u32 3421780262) ∧ W = w' := by
  have h := sum_any ⟨#[49, 50, 51, 52, 53, 54, 55, 56, 57]⟩ W (by unfold maxLen; decide) hT
  have e : M.sum (⟨#[49, 50, 51, 52, 53, 54, 55, 56, 57]⟩ : ByteArray).data.toList = 3421780262 := by decide +kernel
  rw [e] at h
  exact h
theorem sp15 (W : World) : Calls Tryd.prog 15 #[.int .i64 258, .int .i64 3] W fun e w' => e = .returned (.string ⟨#[0, 1, 2]⟩) ∧ Bel W w' := by
  have h := put_any 258 3 W (by decide) (by decide)
  have e : M.put 258 3 = [0, 1, 2] := by decide +kernel
  rw [e] at h
  exact h
theorem sp17 (W : World) : Calls Tryd.prog 17 #[.string ⟨#[1, 2]⟩] W fun e w' => e = .returned (.int .i64 258) ∧ W = w' := by
  have h := get_any ⟨#[1, 2]⟩ W (by unfold maxLen; decide)
  have e : M.get (⟨#[1, 2]⟩ : ByteArray).data.toList = 258 := by decide +kernel
  rw [e] at h
  exact h

set_option maxHeartbeats 400000 in
theorem speaks_any (w : World) (hT : Tab w) : Calls Tryd.prog 8 #[] w fun e w' => e = .returned (.bool true) ∧ Bel w w' := by
  go_enter Tryd.func8, Tryd.ntmps8
  go_wp2_with fail
  refine (sp10 _ hT).mono ?_
  rintro e w1 ⟨rfl, b1⟩
  have t1 := hT.bel b1
  go_wp2_with fail
  refine (sp9 _ t1).mono ?_
  rintro e w2 ⟨rfl, b2⟩
  have t2 := t1.bel b2
  go_wp2_with fail
  refine (sp12 _ t2).mono ?_
  rintro e w3 ⟨rfl, rfl⟩
  go_wp2_with fail
  refine (sp15 _).mono ?_
  rintro e w4 ⟨rfl, b4⟩
  go_wp2_with fail
  refine (sp17 _).mono ?_
  rintro e w5 ⟨rfl, rfl⟩
  go_wp2_with fail
  go_ret
  exact ⟨rfl, (b1.tr b2).tr b4⟩
end Go.Proofs.YtfiopegkopfceaaDoor
