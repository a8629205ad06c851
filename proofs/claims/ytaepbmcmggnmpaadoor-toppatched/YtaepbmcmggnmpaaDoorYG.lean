/-
  The contracts of keys.Number, Text, firstNumber, walked.
-/
import Derived.Test.YtaepbmcmggnmpaaDoorYP
namespace Go.Proofs.YtaepbmcmggnmpaaDoor.Ky
open Go.RowKit
set_option maxRecDepth 100000

/-- A block of three cells that a call made ahead of another call. -/
theorem box3 {w w1 : World} {c0 c1 c2 : Value} {t : TypeId} (b1 : Bel (w.alloc (.cells #[c0, c1, c2] t)) w1) :
    (w1.cell? ⟨w.heap.size, 0, none⟩ = some c0 ∧ w1.cell? ⟨w.heap.size, 1, none⟩ = some c1 ∧ w1.cell? ⟨w.heap.size, 2, none⟩ = some c2) ∧
    (w1.frozen? ⟨w.heap.size, 0, none⟩ = false ∧ w1.frozen? ⟨w.heap.size, 1, none⟩ = false ∧ w1.frozen? ⟨w.heap.size, 2, none⟩ = false) ∧ w.heap.size < w1.heap.size := by
  have bz := b1.size
  simp at bz
  refine ⟨⟨?_, ?_, ?_⟩, ⟨?_, ?_, ?_⟩, by omega⟩
  · exact (b1.cell (p := ⟨w.heap.size, 0, none⟩) (by simp)).trans (by simp [World.cell?_alloc_at])
  · exact (b1.cell (p := ⟨w.heap.size, 1, none⟩) (by simp)).trans (by simp [World.cell?_alloc_at])
  · exact (b1.cell (p := ⟨w.heap.size, 2, none⟩) (by simp)).trans (by simp [World.cell?_alloc_at])
  · exact (b1.frozen (p := ⟨w.heap.size, 0, none⟩) (by simp)).trans (by simp [World.frozen?_alloc_at])
  · exact (b1.frozen (p := ⟨w.heap.size, 1, none⟩) (by simp)).trans (by simp [World.frozen?_alloc_at])
  · exact (b1.frozen (p := ⟨w.heap.size, 2, none⟩) (by simp)).trans (by simp [World.frozen?_alloc_at])
/-- The three cells behind three stores. -/
theorem set3 {w1 : World} {B : Nat} {c0 c1 c2 : Value} (a b c : Value) (h : w1.cell? ⟨B, 0, none⟩ = some c0 ∧ w1.cell? ⟨B, 1, none⟩ = some c1 ∧ w1.cell? ⟨B, 2, none⟩ = some c2) :
    (((w1.setCell ⟨B, 0, none⟩ a).setCell ⟨B, 1, none⟩ b).setCell ⟨B, 2, none⟩ c).cell? ⟨B, 0, none⟩ = some a ∧
    (((w1.setCell ⟨B, 0, none⟩ a).setCell ⟨B, 1, none⟩ b).setCell ⟨B, 2, none⟩ c).cell? ⟨B, 1, none⟩ = some b ∧
    (((w1.setCell ⟨B, 0, none⟩ a).setCell ⟨B, 1, none⟩ b).setCell ⟨B, 2, none⟩ c).cell? ⟨B, 2, none⟩ = some c := by
  obtain ⟨h0, h1, h2⟩ := h
  refine ⟨?_, ?_, ?_⟩
  · rw [World.cell?_setCell_other _ _ _ _ (by simp), World.cell?_setCell_other _ _ _ _ (by simp), World.cell?_setCell_same _ _ _ h0]
  · rw [World.cell?_setCell_other _ _ _ _ (by simp), World.cell?_setCell_same (u := c1)]
    rw [World.cell?_setCell_other _ _ _ _ (by simp)]; exact h1
  · rw [World.cell?_setCell_same (u := c2)]
    rw [World.cell?_setCell_other _ _ _ _ (by simp), World.cell?_setCell_other _ _ _ _ (by simp)]; exact h2
theorem Bel.set3 {w w1 : World} (h : Bel w w1) {B : Nat} (hB : w.heap.size ≤ B) (a b c : Value) : Bel w (((w1.setCell ⟨B, 0, none⟩ a).setCell ⟨B, 1, none⟩ b).setCell ⟨B, 2, none⟩ c) :=
  Below.setCell (Below.setCell (Below.setCell h hB _) hB _) hB _

theorem number_any (n : Int) (w : World) : Calls Tryd.prog 52 #[.int .i64 n] w fun e w' => e = .returned (sv ([], n, false)) ∧ Bel w w' := by
  go_enter Tryd.func52, Tryd.ntmps52
  go_wp2
  exact bodyPost_ret (v := .agg #[.string (M.bs []), .int .i64 n, .bool false]) (by simp [results, Tryd.results52, go_sem, M.bs]) rfl ⟨rfl, Bel.al (Below.refl _ _) _⟩
theorem text_any (s : ByteArray) (w : World) : Calls Tryd.prog 53 #[.string s] w fun e w' => e = .returned (.agg #[.string s, .int .i64 0, .bool true]) ∧ Bel w w' := by
  go_enter Tryd.func53, Tryd.ntmps53
  go_wp2
  exact bodyPost_ret (v := .agg #[.string s, .int .i64 0, .bool true]) (by simp [results, Tryd.results53, go_sem]) rfl ⟨rfl, Bel.al (Below.refl _ _) _⟩

set_option maxHeartbeats 400000 in
theorem firstNumber_any (s : ByteArray) (w : World) (hs : s.size ≤ maxLen) :
    Calls Tryd.prog 87 #[.string s] w fun e w' => e = .returned (.tuple #[sv (M.firstNum s.data.toList).1, .int .i64 ((M.firstNum s.data.toList).2.1 : Int), .int .i64 ((M.firstNum s.data.toList).2.2 : Int)]) ∧ Bel w w' := by
  unfold maxLen at hs
  have hl : Hid (s.size = s.data.toList.length) := Lib.size_eq s
  by_cases h7 : s.size < 7
  · have HF : Hid (M.firstNum s.data.toList = (M.zeroV, 0, 3)) := by show _ = _; unfold M.firstNum; rw [if_pos (by rw [← hl.out]; exact h7)]
    go_enter Tryd.func87, Tryd.ntmps87
    go_wp2
    refine bodyPost_ret (v := .tuple #[.agg #[.string (M.bs []), .int .i64 0, .bool false], .int .i64 0, .int .i64 3]) (by simp [results, Tryd.results87, go_sem, M.bs]) rfl ⟨by rw [HF.out]; rfl, Bel.al (Below.refl _ _) _⟩
  · go_enter Tryd.func87, Tryd.ntmps87
    go_wp2
    go_loop [5, 11] (fun n i => ∃ k : Nat, k ≤ 6 ∧ i = .int .i64 k ∧ n = .int .i64 ((M.getN ((s.data.toList.drop 1).take k) : Nat) : Int)) (fun _ i => 6 - (intOf i).toNat)
    case atStart => exact ⟨0, Nat.zero_le _, rfl, rfl⟩
    case round =>
      obtain ⟨k, hk, rfl, rfl⟩ := hrel
      have hb := M.getN_lt ((s.data.toList.drop 1).take k)
      rw [List.length_take_of_le (by rw [List.length_drop, ← hl.out]; omega)] at hb
      by_cases hlt : k < 6
      · have hb5 : M.getN ((s.data.toList.drop 1).take k) < 1099511627776 := Nat.lt_of_lt_of_le hb (show 256 ^ k ≤ 256 ^ 5 from Nat.pow_le_pow_right (by decide) (by omega))
        have hk1 : 1 + k < s.size := by omega
        have HS : Hid (M.getN ((s.data.toList.drop 1).take (k + 1)) = M.getN ((s.data.toList.drop 1).take k) * 256 + s[1 + k].toNat) := by
          show _ = _
          rw [List.take_succ_eq_append_getElem (by rw [List.length_drop, ← hl.out]; omega), M.getN_snoc]
          congr 2
          rw [List.getElem_drop]; rfl
        clear hb
        generalize M.getN ((s.data.toList.drop 1).take k) = N at *
        have hc := s[1 + k].toNat_lt
        have e1 : bits .or .i64 ((N : Int) * 256) (s[1 + k].toNat : Int) = ((N * 256 + s[1 + k].toNat : Nat) : Int) := by
          rw [← M.join8 N _ (by omega), ← M.i64_or_nat _ _ (by omega) (by omega)]; rfl
        go_wp2
        go_round
        case rel => exact ⟨k + 1, by omega, by go_num, by rw [HS.out]; go_num⟩
        case measure => simp [intOf]; omega
      · obtain rfl : k = 6 := by omega
        have hb6 : M.getN ((s.data.toList.drop 1).take 6) < 281474976710656 := hb
        clear hb
        by_cases hbig : 2199023255552 < M.getN ((s.data.toList.drop 1).take 6)
        · have HF : Hid (M.firstNum s.data.toList = (M.zeroV, 0, 2)) := by show _ = _; unfold M.firstNum; rw [if_neg (by rw [← hl.out]; exact h7), if_pos hbig]
          generalize M.getN ((s.data.toList.drop 1).take 6) = N at *
          go_wp2
          refine bodyPost_ret (v := .tuple #[.agg #[.string (M.bs []), .int .i64 0, .bool false], .int .i64 0, .int .i64 2]) (by simp [results, Tryd.results87, go_sem, M.bs]) rfl ⟨by rw [HF.out]; rfl, Bel.al (Below.refl _ _) _⟩
        · have HF : Hid (M.firstNum s.data.toList = (([], (M.getN ((s.data.toList.drop 1).take 6) : Int) - 1099511627776, false), 7, 0)) := by show _ = _; unfold M.firstNum; rw [if_neg (by rw [← hl.out]; exact h7), if_neg hbig]
          generalize M.getN ((s.data.toList.drop 1).take 6) = N at *
          go_wp2_with fail
          refine (number_any _ _).mono ?_
          rintro e w1 ⟨rfl, b1⟩
          obtain ⟨d, ⟨g0, g1, g2⟩, bz⟩ := box3 b1
          obtain ⟨d0, d1, d2⟩ := id d
          have q := set3 (.string (M.bs [])) (.int .i64 ((N : Int) - 1099511627776)) (.bool false) d
          go_wp2_with fail
          refine bodyPost_ret (v := .tuple #[.agg #[.string (M.bs []), .int .i64 ((N : Int) - 1099511627776), .bool false], .int .i64 7, .int .i64 0]) (by simp [results, Tryd.results87, go_sem, q]) rfl ⟨by rw [HF.out]; rfl, Bel.set3 (Bel.tr (Bel.al (Below.refl _ _) _) b1) (Nat.le_refl _) _ _ _⟩
end Go.Proofs.YtaepbmcmggnmpaaDoor.Ky
