/-
  The contracts of keys.first and keys.Get, walked.
-/
import Derived.Test.YtfiopegkopfceaaKT
namespace Go.Proofs.Ytfiopegkopfceaa
open Go.RowKit

set_option maxHeartbeats 1000000 in
theorem first_any (s : ByteArray) (w : World) (hs : s.size ≤ 1000) (h1 : 1 ≤ s.size) :
    Calls Try.prog 27 #[.string s] w fun e w' => e = .returned (.tuple #[sv (M.firstV s.data.toList).1, .int .i64 ((M.firstV s.data.toList).2.1 : Int), .int .i64 ((M.firstV s.data.toList).2.2 : Int)]) ∧ Bel w w' := by
  have h0 : 0 < s.size := by omega
  have hd := M.drop_at s 0 h0
  rw [List.drop_zero] at hd
  have e0 : M.firstV s.data.toList = if s[0] = 16 then M.firstNum s.data.toList else if s[0] = 32 then M.scan (s.data.toList.drop 1) [] 1 else (M.zeroV, 0, 2) := by
    conv => lhs; rw [hd]
    unfold M.firstV
    simp only
    rw [← hd]
  clear hd
  by_cases h16 : s[0] = 16
  · rw [if_pos h16] at e0
    have q1 : ((s[0].toNat : Int) == 16) = true := by rw [h16]; rfl
    clear h16
    have H := fun W => firstNumber_any s W (by unfold maxLen; omega)
    rw [← e0] at H
    clear e0
    generalize M.firstV s.data.toList = X at *
    obtain ⟨⟨t, n, b⟩, u, e⟩ := X
    go_enter Try.func27, Try.ntmps27
    go_wp2_with fail
    refine (H _).mono ?_
    rintro e w1 ⟨rfl, b1⟩
    obtain ⟨d, ⟨g0, g1, g2⟩, bz⟩ := box3 b1
    obtain ⟨d0, d1, d2⟩ := id d
    have q := set3 (.string (M.bs t)) (.int .i64 n) (.bool b) d
    clear d
    go_wp2_with fail
    refine bodyPost_ret (v := .tuple #[.agg #[.string (M.bs t), .int .i64 n, .bool b], .int .i64 (u : Int), .int .i64 (e : Int)]) (by simp [results, Try.results27, go_sem, q]) rfl ⟨rfl, Bel.set3 (Bel.tr (Bel.al (Below.refl _ _) _) b1) (Nat.le_refl _) _ _ _⟩
  · rw [if_neg h16] at e0
    have q1 : ((s[0].toNat : Int) == 16) = false := by
      rw [beq_eq_false_iff_ne]; intro e; apply h16; apply UInt8.toNat_inj.1
      have : s[0].toNat = 16 := by omega
      rw [this]; rfl
    clear h16
    by_cases h32 : s[0] = 32
    · rw [if_pos h32] at e0
      have q2 : ((s[0].toNat : Int) == 32) = true := by rw [h32]; rfl
      clear h32
      have H := fun W => firstText_any s W hs h1
      rw [← e0] at H
      clear e0
      generalize M.firstV s.data.toList = X at *
      obtain ⟨⟨t, n, b⟩, u, e⟩ := X
      go_enter Try.func27, Try.ntmps27
      go_wp2_with fail
      refine (H _).mono ?_
      rintro e w1 ⟨rfl, b1⟩
      obtain ⟨d, ⟨g0, g1, g2⟩, bz⟩ := box3 b1
      obtain ⟨d0, d1, d2⟩ := id d
      have q := set3 (.string (M.bs t)) (.int .i64 n) (.bool b) d
      clear d
      go_wp2_with fail
      refine bodyPost_ret (v := .tuple #[.agg #[.string (M.bs t), .int .i64 n, .bool b], .int .i64 (u : Int), .int .i64 (e : Int)]) (by simp [results, Try.results27, go_sem, q]) rfl ⟨rfl, Bel.set3 (Bel.tr (Bel.al (Below.refl _ _) _) b1) (Nat.le_refl _) _ _ _⟩
    · rw [if_neg h32] at e0
      have q2 : ((s[0].toNat : Int) == 32) = false := by
        rw [beq_eq_false_iff_ne]; intro e; apply h32; apply UInt8.toNat_inj.1
        have : s[0].toNat = 32 := by omega
        rw [this]; rfl
      clear h32
      have HE : Hid (M.firstV s.data.toList = (M.zeroV, 0, 2)) := e0
      clear e0
      go_enter Try.func27, Try.ntmps27
      go_wp2_with fail
      refine bodyPost_ret (v := .tuple #[.agg #[.string ⟨#[]⟩, .int .i64 0, .bool false], .int .i64 0, .int .i64 2]) (by simp [results, Try.results27, go_sem]) rfl ⟨by rw [HE.out]; rfl, Bel.al (Below.refl _ _) _⟩
end Go.Proofs.Ytfiopegkopfceaa
