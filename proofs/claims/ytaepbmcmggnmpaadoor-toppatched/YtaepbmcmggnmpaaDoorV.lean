/-
  The contracts of sum.Put and sum.Get, walked.
-/
import Derived.Test.YtaepbmcmggnmpaaDoorW
namespace Go.Proofs.YtaepbmcmggnmpaaDoor
open Go.RowKit
set_option maxRecDepth 100000

theorem info5 : (Tryd.prog.info? 5).map (fun i => (i.zero, i.size, i.bytes)) = some (some (.int .u8 0), 1, 1) := by kernel_rfl

theorem make_bytes (w : World) (z n : Nat) (hz : z ≤ 7) : (Instr.makeSlice 54 (.int .i64 (z : Int)) (.int .i64 (z : Int))).run Tryd.prog w =
    .ok (.slice (some ⟨w.heap.size, 0, none⟩) z z) (w.alloc (.cells (M.putC z n 0) 5)) := by
  obtain ⟨i0, hi, hz0, hz1, hz2⟩ := info_parts info5
  have h := run_make (P := Tryd.prog) w 54 5 i0 (.int .u8 0) Tryd.underlying54 hi hz0 .i64 .i64 (z : Int) (z : Int) (by omega) (by omega) (by rw [hz2]; omega) (by omega)
  rw [h, hz1]
  simp [M.putC, Value.cells]

theorem conv_put (W : World) (z n : Nat) : (convert 54 9 (.slice (some ⟨W.heap.size, 0, none⟩) z z)).run Tryd.prog (W.alloc (.cells (M.putC z n z) 5)) =
    .ok (.string (M.bs (M.putL z n))) (W.alloc (.cells (M.putC z n z) 5)) := by
  rw [← M.putL_nums]
  refine run_convert_bytes_arg (P := Tryd.prog) _ 54 5 Tryd.underlying54 Tryd.underlying5 W.heap.size 0 z z _ (by simp) ?_ 9 Tryd.underlying9
  intro i hi
  rw [World.cell?_alloc_at (hn := rfl), Nat.zero_add, M.putC_at z n z i (Nat.le_refl _) hi (by omega)]
  simp [List.getD, hi]

set_option maxRecDepth 20000 in
set_option maxHeartbeats 400000 in
theorem put_yes (n z : Nat) (w : World) (h1 : 1 ≤ z) (h7 : z ≤ 7) (hn : n ≤ 9223372036854775807) (h0 : n / 2 ^ (8 * z) = 0) :
    Calls Tryd.prog 36 #[.int .i64 (n : Int), .int .i64 (z : Int)] w fun e w' => e = .returned (.string (M.bs (M.putL z n))) ∧ Bel w w' := by
  have hmk := make_bytes w z n h7
  have q1 : ((8 : Int) * (z : Int)).toNat = 8 * z := by omega
  have q2 : ((n : Int) / 2 ^ (8 * z) != 0) = false := by
    have : (n : Int) / 2 ^ (8 * z) = 0 := by exact_mod_cast h0
    simp [this]
  clear h0
  go_enter Tryd.func36, Tryd.ntmps36
  go_wp2
  go_loopw [27] (fun i wr => ∃ k : Nat, k ≤ z ∧ i = .int .i64 k ∧ wr = w.alloc (.cells (M.putC z n k) 5)) (fun i _ => z - (intOf i).toNat)
  case atStart => exact ⟨0, Nat.zero_le _, rfl, rfl⟩
  case round =>
    obtain ⟨k, hk, rfl, rfl⟩ := hrel
    by_cases hlt : k < z
    · obtain ⟨v0, hv0⟩ := M.putC_some z n k (z - 1 - k) (by omega)
      have q3 : ((8 : Int) * (k : Int)).toNat = 8 * k := by omega
      have q4 : ((z : Int) - 1 - (k : Int)).toNat = z - 1 - k := by omega
      go_wp2
      go_roundw
      case rel => exact ⟨k + 1, by omega, by go_num, by rw [M.putC_step]⟩
      case measure => simp [intOf]; omega
    · obtain rfl : k = z := by omega
      have kc := conv_put w k n
      go_wp2
      go_ret
      exact ⟨rfl, Bel.al (Below.refl _ _) _⟩

set_option maxRecDepth 20000 in
theorem put_nil (n s : Int) (w : World) (h : s < 1 ∨ 7 < s ∨ (1 ≤ s ∧ s ≤ 7 ∧ n < 0)) :
    Calls Tryd.prog 36 #[.int .i64 n, .int .i64 s] w fun e w' => e = .returned (.string (M.bs [])) ∧ w = w' := by
  rcases h with h | h | ⟨h1, h2, h⟩
  · go_enter Tryd.func36, Tryd.ntmps36
    go_wp2
    go_ret
    exact ⟨rfl, rfl⟩
  · have h1 : 1 ≤ s := by omega
    go_enter Tryd.func36, Tryd.ntmps36
    go_wp2
    go_ret
    exact ⟨rfl, rfl⟩
  · go_enter Tryd.func36, Tryd.ntmps36
    go_wp2
    go_ret
    exact ⟨rfl, rfl⟩
set_option maxRecDepth 20000 in
theorem put_much (n z : Nat) (w : World) (h1 : 1 ≤ z) (h7 : z ≤ 7) (_hn : n ≤ 9223372036854775807) (h0 : ¬ n / 2 ^ (8 * z) = 0) :
    Calls Tryd.prog 36 #[.int .i64 (n : Int), .int .i64 (z : Int)] w fun e w' => e = .returned (.string (M.bs [])) ∧ w = w' := by
  have q1 : ((8 : Int) * (z : Int)).toNat = 8 * z := by omega
  have q2 : ((n : Int) / 2 ^ (8 * z) != 0) = true := by
    have : ¬ (n : Int) / 2 ^ (8 * z) = 0 := by
      intro e; apply h0; exact_mod_cast e
    simp [this]
  clear h0
  go_enter Tryd.func36, Tryd.ntmps36
  go_wp2
  go_ret
  exact ⟨rfl, rfl⟩
theorem put_any (n s : Int) (w : World) (hn : -9223372036854775808 ≤ n ∧ n ≤ 9223372036854775807) (hs : -9223372036854775808 ≤ s ∧ s ≤ 9223372036854775807) :
    Calls Tryd.prog 36 #[.int .i64 n, .int .i64 s] w fun e w' => e = .returned (.string (M.bs (M.put n s))) ∧ Bel w w' := by
  unfold M.put
  split
  · rename_i h
    obtain ⟨h1, h2, h3, h4⟩ := h
    obtain ⟨n, rfl⟩ := Int.eq_ofNat_of_zero_le h3
    obtain ⟨s, rfl⟩ := Int.eq_ofNat_of_zero_le (show 0 ≤ s by omega)
    exact put_yes n s w (by omega) (by omega) (by omega) h4
  · rename_i h
    by_cases hx : s < 1 ∨ 7 < s ∨ (1 ≤ s ∧ s ≤ 7 ∧ n < 0)
    · exact (put_nil n s w hx).mono fun e w' ⟨he, hw⟩ => ⟨he, hw ▸ Below.refl _ _⟩
    · obtain ⟨n, rfl⟩ := Int.eq_ofNat_of_zero_le (show 0 ≤ n by omega)
      obtain ⟨s, rfl⟩ := Int.eq_ofNat_of_zero_le (show 0 ≤ s by omega)
      refine (put_much n s w (by omega) (by omega) (by omega) (fun e => h ⟨by omega, by omega, by omega, e⟩)).mono fun e w' ⟨he, hw⟩ => ⟨he, hw ▸ Below.refl _ _⟩

set_option maxRecDepth 20000 in
set_option maxHeartbeats 400000 in
theorem get_any (s : ByteArray) (w : World) (hs : s.size ≤ maxLen) :
    Calls Tryd.prog 48 #[.string s] w fun e w' => e = .returned (.int .i64 ((M.get s.data.toList : Nat) : Int)) ∧ w = w' := by
  have hl : Hid (s.size = s.data.toList.length) := Lib.size_eq s
  unfold maxLen at hs
  by_cases h7 : 7 < s.size
  · have HG : Hid (M.get s.data.toList = 0) := by show _ = _; unfold M.get; rw [if_neg (by rw [← hl.out]; omega)]
    go_enter Tryd.func48, Tryd.ntmps48
    go_wp2
    go_ret
    exact ⟨by rw [HG.out]; rfl, rfl⟩
  · have HG : Hid (M.get s.data.toList = M.getN s.data.toList) := by show _ = _; unfold M.get; rw [if_pos (by rw [← hl.out]; omega)]
    go_enter Tryd.func48, Tryd.ntmps48
    go_wp2
    go_loop [3, 10] (fun n i => ∃ k : Nat, k ≤ s.size ∧ i = .int .i64 k ∧ n = .int .i64 ((M.getN (s.data.toList.take k) : Nat) : Int)) (fun _ i => s.size - (intOf i).toNat)
    case atStart => exact ⟨0, Nat.zero_le _, rfl, rfl⟩
    case round =>
      obtain ⟨k, hk, rfl, rfl⟩ := hrel
      by_cases hlt : k < s.size
      · have HS : Hid (M.getN (s.data.toList.take (k + 1)) = M.getN (s.data.toList.take k) * 256 + s[k].toNat) := by
          show _ = _; rw [M.take_snoc s k hlt, M.getN_snoc]
        have hb := M.getN_lt (s.data.toList.take k)
        rw [List.length_take_of_le (by rw [← hl.out]; omega)] at hb
        have hb6 : M.getN (s.data.toList.take k) < 281474976710656 := Nat.lt_of_lt_of_le hb (show 256 ^ k ≤ 256 ^ 6 from Nat.pow_le_pow_right (by decide) (by omega))
        clear hb
        generalize M.getN (s.data.toList.take k) = N at hb6 HS ⊢
        have hc := s[k].toNat_lt
        have e1 : bits .or .i64 ((N : Int) * 256) (s[k].toNat : Int) = ((N * 256 + s[k].toNat : Nat) : Int) := by
          rw [← M.join8 N _ (by omega), ← M.i64_or_nat _ _ (by omega) (by omega)]; rfl
        go_wp2
        go_round
        case rel => exact ⟨k + 1, by omega, by go_num, by rw [HS.out]; go_num⟩
        case measure => simp [intOf]; omega
      · have HE : Hid (M.getN (s.data.toList.take k) = M.getN s.data.toList) := by
          show _ = _; rw [List.take_of_length_le (by rw [← hl.out]; omega)]
        go_wp2
        go_ret
        exact ⟨by rw [HG.out, ← HE.out]; rfl, rfl⟩
end Go.Proofs.YtaepbmcmggnmpaaDoor
