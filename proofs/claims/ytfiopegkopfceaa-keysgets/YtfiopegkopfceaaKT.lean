/-
  The contract of keys.firstText, walked.
-/
import Derived.Test.YtfiopegkopfceaaKG
namespace Go.Proofs.Ytfiopegkopfceaa
open Go.RowKit

theorem Own.form {w : World} {base : Nat} {v : Value} {l : List UInt8} (h : Own w base v l) : ∃ a cap, v = .slice a l.length cap := by
  obtain ⟨_, ⟨h1, h2⟩ | ⟨g, cap, cur, hv, _⟩⟩ := h
  · exact ⟨none, 0, by rw [h2]; exact h1⟩
  · exact ⟨_, _, hv⟩

theorem ret_text (acc : List UInt8) (k : Nat) : Ending.returned (.tuple #[.agg #[.string (M.bs acc), .int .i64 0, .bool true], .int .i64 ((k : Int) + 1 + 1), .int .i64 0]) =
    .returned (.tuple #[sv (acc, 0, true), .int .i64 ((k + 2 : Nat) : Int), .int .i64 ((0 : Nat) : Int)]) := by
  rw [show ((k + 2 : Nat) : Int) = (k : Int) + 1 + 1 by omega]; rfl
set_option maxHeartbeats 2000000 in
theorem firstText_any (s : ByteArray) (w : World) (hs : s.size ≤ 1000) (h1 : 1 ≤ s.size) :
    Calls Try.prog 31 #[.string s] w fun e w' => e = .returned (.tuple #[sv (M.scan (s.data.toList.drop 1) [] 1).1, .int .i64 ((M.scan (s.data.toList.drop 1) [] 1).2.1 : Int), .int .i64 ((M.scan (s.data.toList.drop 1) [] 1).2.2 : Int)]) ∧ Bel w w' := by
  obtain ⟨R, hR⟩ : ∃ R, R = M.scan (s.data.toList.drop 1) [] 1 := ⟨_, rfl⟩
  rw [← hR]
  have HR : Hid (M.scan (s.data.toList.drop 1) [] 1 = R) := hR.symm
  clear hR
  go_enter Try.func31, Try.ntmps31
  go_wp2
  go_loopw [5, 6] (fun tv i wr => ∃ (k : Nat) (acc : List UInt8), 1 ≤ k ∧ k ≤ s.size ∧ i = .int .i64 k ∧ acc.length ≤ k ∧ Own wr (w.heap.size + 1) tv acc ∧ M.scan (s.data.toList.drop k) acc k = R ∧
      Bel (w.alloc (.cells #[.string ⟨#[]⟩, .int .i64 0, .bool false] 36)) wr) (fun _ i _ => s.size - (intOf i).toNat)
  case atStart => exact ⟨1, [], by omega, by omega, rfl, by simp, World.ownsRow_nil _ _ _ _, HR.out, Below.refl _ _⟩
  case round =>
    obtain ⟨k, acc, hk1, hk, rfl, hacc, hown, hsc, hb⟩ := hrel
    have HS : Hid (M.scan (s.data.toList.drop k) acc k = R) := hsc
    clear hsc
    obtain ⟨a, cap, hform⟩ := hown.form
    have HO : Hid (Own wr (w.heap.size + 1) u5 acc) := hown
    clear hown
    have HM : Hid (u5 = .slice a acc.length cap) := hform
    clear hform
    obtain ⟨d, ⟨g0, g1, g2⟩, bz⟩ := box3 hb
    have HBel : Hid (Bel w wr) := Bel.tr (Bel.al (Below.refl _ _) _) hb
    have Q := fun a b c => set3 a b c d
    obtain ⟨d0, d1, d2⟩ := d
    by_cases hlt : k < s.size
    · rw [Hid, M.drop_at s k hlt] at HS
      by_cases h0 : s[k] = 0
      · have q0 : ((s[k].toNat : Int) != 0) = false := by rw [h0]; rfl
        rw [h0] at HS
        clear h0
        by_cases hlt2 : k + 1 < s.size
        · have q9 : ((k : Int) + 1 == (s.size : Int)) = false := by rw [beq_eq_false_iff_ne]; omega
          rw [M.drop_at s (k + 1) hlt2, M.scan_zero] at HS
          by_cases h255 : s[k + 1] = 255
          · have q1 : ((s[k + 1].toNat : Int) == 255) = true := by rw [h255]; rfl
            rw [if_pos h255] at HS
            have HS2 : Hid (M.scan (s.data.toList.drop (k + 2)) (acc ++ [0]) (k + 2) = R) := HS
            clear HS h255 Q d0 d1 d2 g0 g1 g2
            go_wp2_with (first
              | (at_builtin; refine app1 rfl _ _ rfl (w.heap.size + 1) _ _ rfl HO.out 0 _ rfl rfl (by omega) (by omega) ?_; intro v1 w1 o1 b1))
            go_roundw
            case rel => exact ⟨k + 2, acc ++ [0], by omega, by omega, by go_num, by simp; omega, o1, HS2.out, Below.trans hb (by simpa using b1)⟩
            case measure => simp [intOf]; omega
          · have q1 : ((s[k + 1].toNat : Int) == 255) = false := by
              rw [beq_eq_false_iff_ne]; intro e; apply h255; apply UInt8.toNat_inj.1
              have : s[k + 1].toNat = 255 := by omega
              rw [this]; rfl
            rw [if_neg h255] at HS
            clear h255
            by_cases h1' : s[k + 1] = 1
            · have q2 : ((s[k + 1].toNat : Int) == 1) = true := by rw [h1']; rfl
              rw [if_pos h1'] at HS
              clear h1'
              by_cases h20 : 20 < acc.length
              · rw [if_pos h20] at HS
                have HS2 : Hid (R = (M.zeroV, 0, 6)) := HS.symm
                clear HS
                have hform := HM.out
                have q := Q (.string ⟨#[]⟩) (.int .i64 0) (.bool false)
                clear Q HM HO
                subst hform
                go_wp2_with fail
                refine bodyPost_ret (v := .tuple #[.agg #[.string ⟨#[]⟩, .int .i64 0, .bool false], .int .i64 0, .int .i64 6]) (by simp [results, Try.results31, go_sem, q]) rfl ⟨by rw [HS2.out]; rfl, Bel.set3 HBel.out (Nat.le_refl _) _ _ _⟩
              · rw [if_neg h20] at HS
                have HS2 : Hid (R = ((acc, 0, true), k + 2, 0)) := HS.symm
                clear HS
                have hkc := conv_own wr (w.heap.size + 1) _ _ HO.out
                have hform := HM.out
                clear HM HO Q
                subst hform
                go_wp2_with fail
                refine (text_any _ _).mono ?_
                rintro e w1 ⟨rfl, b1⟩
                have hz1 := b1.size
                have k0 := (b1.cell (p := ⟨w.heap.size, 0, none⟩) bz).trans d0
                have k1 := (b1.cell (p := ⟨w.heap.size, 1, none⟩) bz).trans d1
                have k2 := (b1.cell (p := ⟨w.heap.size, 2, none⟩) bz).trans d2
                have j0 := (b1.frozen (p := ⟨w.heap.size, 0, none⟩) bz).trans g0
                have j1 := (b1.frozen (p := ⟨w.heap.size, 1, none⟩) bz).trans g1
                have j2 := (b1.frozen (p := ⟨w.heap.size, 2, none⟩) bz).trans g2
                have q := set3 (.string (M.bs acc)) (.int .i64 0) (.bool true) ⟨k0, k1, k2⟩
                clear d0 d1 d2 g0 g1 g2
                go_wp2_with fail
                refine bodyPost_ret (v := .tuple #[.agg #[.string (M.bs acc), .int .i64 0, .bool true], .int .i64 ((k : Int) + 1 + 1), .int .i64 0]) (by simp [results, Try.results31, go_sem, q]) rfl ⟨by rw [HS2.out]; exact ret_text acc k, Bel.set3 (HBel.out.tr b1) (Nat.le_refl _) _ _ _⟩
            · have q2 : ((s[k + 1].toNat : Int) == 1) = false := by
                rw [beq_eq_false_iff_ne]; intro e; apply h1'; apply UInt8.toNat_inj.1
                have : s[k + 1].toNat = 1 := by omega
                rw [this]; rfl
              rw [if_neg h1'] at HS
              clear h1'
              have HS2 : Hid (R = (M.zeroV, 0, 2)) := HS.symm
              clear HS
              have q := Q (.string ⟨#[]⟩) (.int .i64 0) (.bool false)
              clear Q
              go_wp2_with fail
              refine bodyPost_ret (v := .tuple #[.agg #[.string ⟨#[]⟩, .int .i64 0, .bool false], .int .i64 0, .int .i64 2]) (by simp [results, Try.results31, go_sem, q]) rfl ⟨by rw [HS2.out]; rfl, Bel.set3 HBel.out (Nat.le_refl _) _ _ _⟩
        · have q9 : ((k : Int) + 1 == (s.size : Int)) = true := by rw [beq_iff_eq]; omega
          rw [List.drop_eq_nil_of_le (by rw [← Lib.size_eq]; omega), M.scan_end] at HS
          have HS2 : Hid (R = (M.zeroV, 0, 3)) := HS.symm
          clear HS
          have q := Q (.string ⟨#[]⟩) (.int .i64 0) (.bool false)
          clear Q
          go_wp2_with fail
          refine bodyPost_ret (v := .tuple #[.agg #[.string ⟨#[]⟩, .int .i64 0, .bool false], .int .i64 0, .int .i64 3]) (by simp [results, Try.results31, go_sem, q]) rfl ⟨by rw [HS2.out]; rfl, Bel.set3 HBel.out (Nat.le_refl _) _ _ _⟩
      · have q0 : ((s[k].toNat : Int) != 0) = true := by
          rw [bne_iff_ne]; intro e; apply h0; apply UInt8.toNat_inj.1; simpa using e
        rw [M.scan_ne _ _ _ _ h0] at HS
        have HS2 : Hid (M.scan (s.data.toList.drop (k + 1)) (acc ++ [s[k]]) (k + 1) = R) := HS
        clear HS h0 Q d0 d1 d2 g0 g1 g2
        go_wp2_with (first
          | (at_builtin; refine app1 rfl _ _ rfl (w.heap.size + 1) _ _ rfl HO.out s[k] _ rfl rfl (by omega) (by omega) ?_; intro v1 w1 o1 b1))
        go_roundw
        case rel => exact ⟨k + 1, acc ++ [s[k]], by omega, by omega, by go_num, by simp; omega, o1, HS2.out, Below.trans hb (by simpa using b1)⟩
        case measure => simp [intOf]; omega
    · rw [Hid, List.drop_eq_nil_of_le (by rw [← Lib.size_eq]; omega), M.scan] at HS
      have HS2 : Hid (R = (M.zeroV, 0, 3)) := HS.symm
      clear HS
      have q := Q (.string ⟨#[]⟩) (.int .i64 0) (.bool false)
      clear Q
      go_wp2_with fail
      refine bodyPost_ret (v := .tuple #[.agg #[.string ⟨#[]⟩, .int .i64 0, .bool false], .int .i64 0, .int .i64 3]) (by simp [results, Try.results31, go_sem, q]) rfl ⟨by rw [HS2.out]; rfl, Bel.set3 HBel.out (Nat.le_refl _) _ _ _⟩
end Go.Proofs.Ytfiopegkopfceaa
