/-
  The contracts of the document's own answers for layer 2 (concordanceref02), walked.
-/
import Derived.Test.YtaepbmcmggnmpaaDoorV
import Derived.Test.YtaepbmcmggnmpaaDoorN
namespace Go.Proofs.YtaepbmcmggnmpaaDoor
open Go.RowKit
set_option maxRecDepth 100000

theorem conv1 (W : World) (b0 : Int) : (convert 54 9 (.slice (some ⟨W.heap.size, 0, none⟩) 1 1)).run Tryd.prog (W.alloc (.cells #[.int .u8 b0] 5)) =
    .ok (.string (M.bs [UInt8.ofNat b0.toNat])) (W.alloc (.cells #[.int .u8 b0] 5)) := by
  refine run_convert_bytes_arg (P := Tryd.prog) _ 54 5 Tryd.underlying54 Tryd.underlying5 W.heap.size 0 1 1 [b0] rfl ?_ 9 Tryd.underlying9
  intro i hi
  match i, hi with
  | 0, _ => simp [World.cell?_alloc_at]

set_option maxRecDepth 20000 in
set_option maxHeartbeats 400000 in
theorem rget_any (s : ByteArray) (w : World) (hs : s.size ≤ maxLen) :
    Calls Tryd.prog 51 #[.string s] w fun e w' => e = .returned (.int .i64 ((M.get s.data.toList : Nat) : Int)) ∧ w = w' := by
  have hl : Hid (s.size = s.data.toList.length) := Lib.size_eq s
  unfold maxLen at hs
  by_cases h7 : 7 < s.size
  · have HG : Hid (M.get s.data.toList = 0) := by show _ = _; unfold M.get; rw [if_neg (by rw [← hl.out]; omega)]
    go_enter Tryd.func51, Tryd.ntmps51
    go_wp2
    refine wp_loop_rounds 1 ?_
    rw [rounds_succ]
    go_wp2
    go_ret
    exact ⟨by rw [HG.out]; rfl, rfl⟩
  · have HG : Hid (M.get s.data.toList = M.getN s.data.toList) := by show _ = _; unfold M.get; rw [if_pos (by rw [← hl.out]; omega)]
    go_enter Tryd.func51, Tryd.ntmps51
    go_wp2
    go_loop [3, 4] (fun n i => ∃ k : Nat, k ≤ s.size ∧ i = .int .i64 k ∧ n = .int .i64 ((M.getN (s.data.toList.take k) : Nat) : Int)) (fun _ i => s.size - (intOf i).toNat)
    case atStart => exact ⟨0, Nat.zero_le _, rfl, rfl⟩
    case round =>
      obtain ⟨k, hk, rfl, rfl⟩ := hrel
      by_cases hlt : k < s.size
      · have HS : Hid (M.getN (s.data.toList.take (k + 1)) = M.getN (s.data.toList.take k) * 256 + s[k].toNat) := by
          show _ = _; rw [M.take_snoc s k hlt, M.getN_snoc]
        have hb := M.getN_lt (s.data.toList.take k)
        rw [List.length_take_of_le (by rw [← hl.out]; omega)] at hb
        have hb6 : M.getN (s.data.toList.take k) < 281474976710656 := Nat.lt_of_lt_of_le hb (show 256 ^ k ≤ 256 ^ 6 from Nat.pow_le_pow_right (by decide) (by omega))
        clear hb
        generalize M.getN (s.data.toList.take k) = N at hb6 HS ⊢
        have hc := s[k].toNat_lt
        go_wp2
        go_round
        case rel => exact ⟨k + 1, by omega, by go_num, by rw [HS.out]; go_num⟩
        case measure => simp [intOf]; omega
      · have HE : Hid (M.getN (s.data.toList.take k) = M.getN s.data.toList) := by
          show _ = _; rw [List.take_of_length_le (by rw [← hl.out]; omega)]
        go_wp2
        go_ret
        exact ⟨by rw [HG.out, ← HE.out]; rfl, rfl⟩

def rputL (z n : Nat) : List UInt8 := if n / 256 ^ z = 0 then M.putL z n else []
theorem byte_of (X : Nat) : UInt8.ofNat ((X : Int) % 256).toNat = UInt8.ofNat X := by
  rw [show ((X : Int) % 256).toNat = X % 256 by omega, M.ofNat_mod]
set_option maxRecDepth 20000 in
set_option maxHeartbeats 400000 in
theorem rput_loop (n z : Nat) (w : World) (h1 : 1 ≤ z) (h7 : z ≤ 7) (hn : n ≤ 9223372036854775807) :
    Calls Tryd.prog 43 #[.int .i64 (n : Int), .int .i64 (z : Int)] w fun e w' => e = .returned (.string (M.bs (rputL z n))) ∧ Bel w w' := by
  have k1 := conv1
  go_enter Tryd.func43, Tryd.ntmps43
  go_wp2
  go_loopw [0, 5, 6] (fun m s i wr => ∃ k : Nat, k ≤ z ∧ i = .int .i64 k ∧ m = .int .i64 ((n / 256 ^ k : Nat) : Int) ∧ s = .string (M.bs (M.putL k n)) ∧ Bel w wr) (fun _ _ i _ => z - (intOf i).toNat)
  case atStart => exact ⟨0, Nat.zero_le _, rfl, by simp, rfl, Below.refl _ _⟩
  case round =>
    obtain ⟨k, hk, rfl, rfl, rfl, hb⟩ := hrel
    have hX : n / 256 ^ k ≤ 9223372036854775807 := Nat.le_trans (Nat.div_le_self _ _) hn
    have hz : (M.bs (M.putL k n)).size = k := by rw [M.bs_size, M.putL_length]
    have hb1 : ∀ b, (M.bs [b]).size = 1 := fun b => M.bs_size [b]
    have HS : Hid (M.putL (k + 1) n = UInt8.ofNat (n / 256 ^ k) :: M.putL k n) := M.putL_succ k n
    have HN : Hid (n / 256 ^ (k + 1) = n / 256 ^ k / 256) := by show _ = _; rw [Nat.pow_succ, Nat.div_div_eq_div_mul]
    obtain ⟨S, hS⟩ : ∃ S, S = M.bs (M.putL k n) := ⟨_, rfl⟩
    rw [← hS] at hz ⊢
    have HSS : Hid (S = M.bs (M.putL k n)) := hS
    clear hS
    obtain ⟨X, hXe⟩ : ∃ X, X = n / 256 ^ k := ⟨_, rfl⟩
    rw [← hXe] at hX HS HN ⊢
    have HX : Hid (X = n / 256 ^ k) := hXe
    clear hXe
    by_cases hlt : k < z
    · go_wp2
      go_roundw
      case rel => exact ⟨k + 1, by omega, by go_num, by rw [HN.out]; go_num, by rw [HSS.out, M.bs_append, HS.out]; exact congrArg (fun b => Value.string (M.bs (b :: M.putL k n))) (byte_of X), hb.al _⟩
      case measure => simp [intOf]; omega
    · obtain rfl : k = z := by omega
      by_cases h0 : X = 0
      · have h00 : Hid (rputL k n = M.putL k n) := by show _ = _; unfold rputL; rw [if_pos (by rw [← HX.out]; exact h0)]
        go_wp2
        go_ret
        exact ⟨by rw [h00.out, ← HSS.out]; rfl, hb⟩
      · have h00 : Hid (rputL k n = []) := by show _ = _; unfold rputL; rw [if_neg (by rw [← HX.out]; exact h0)]
        have h01 : 0 < X := by omega
        clear h0
        go_wp2
        go_ret
        exact ⟨by rw [h00.out]; rfl, hb⟩

set_option maxRecDepth 20000 in
theorem rput_nil (n s : Int) (w : World) (h : s < 1 ∨ 7 < s ∨ (1 ≤ s ∧ s ≤ 7 ∧ n < 0)) :
    Calls Tryd.prog 43 #[.int .i64 n, .int .i64 s] w fun e w' => e = .returned (.string (M.bs [])) ∧ w = w' := by
  rcases h with h | h | ⟨h1, h2, h⟩
  · go_enter Tryd.func43, Tryd.ntmps43
    go_wp2
    go_ret
    exact ⟨rfl, rfl⟩
  · have h1 : 1 ≤ s := by omega
    go_enter Tryd.func43, Tryd.ntmps43
    go_wp2
    go_ret
    exact ⟨rfl, rfl⟩
  · go_enter Tryd.func43, Tryd.ntmps43
    go_wp2
    go_ret
    exact ⟨rfl, rfl⟩
theorem rput_any (n s : Int) (w : World) (hn : -9223372036854775808 ≤ n ∧ n ≤ 9223372036854775807) :
    Calls Tryd.prog 43 #[.int .i64 n, .int .i64 s] w fun e w' => e = .returned (.string (M.bs (M.put n s))) ∧ Bel w w' := by
  by_cases hx : s < 1 ∨ 7 < s ∨ (1 ≤ s ∧ s ≤ 7 ∧ n < 0)
  · have e : M.put n s = [] := by unfold M.put; rw [if_neg (by omega)]
    rw [e]
    exact (rput_nil n s w hx).mono fun e w' ⟨he, hw⟩ => ⟨he, hw ▸ Below.refl _ _⟩
  · obtain ⟨n, rfl⟩ := Int.eq_ofNat_of_zero_le (show 0 ≤ n by omega)
    obtain ⟨s, rfl⟩ := Int.eq_ofNat_of_zero_le (show 0 ≤ s by omega)
    have h := rput_loop n s w (by omega) (by omega) (by omega)
    have e : M.put (n : Int) (s : Int) = rputL s n := by
      unfold M.put rputL
      simp only [Int.toNat_natCast]
      rw [show (2 : Nat) ^ (8 * s) = 256 ^ s by rw [Nat.pow_mul]]
      by_cases h0 : n / 256 ^ s = 0
      · rw [if_pos ⟨by omega, by omega, by omega, h0⟩, if_pos h0]
      · rw [if_neg (fun hh => h0 hh.2.2.2), if_neg h0]
    rw [e]
    exact h

theorem ret_u32 (R : Nat) (h : R < 4294967296) : Ending.returned (.int .u32 (4294967295 - (R : Int))) = .returned (.int .u32 ((4294967295 - R : Nat) : Int)) := by
  rw [show (4294967295 - (R : Int)) = ((4294967295 - R : Nat) : Int) by omega]
set_option maxRecDepth 20000 in
set_option maxHeartbeats 1000000 in
theorem rsum_any (s : ByteArray) (w : World) (hs : s.size ≤ maxLen) :
    Calls Tryd.prog 72 #[.string s] w fun e w' => e = .returned (.int .u32 ((M.sum s.data.toList : Nat) : Int)) ∧ w = w' := by
  unfold maxLen at hs
  go_enter Tryd.func72, Tryd.ntmps72
  go_wp2
  go_loop [3, 4] (fun n i => ∃ k : Nat, k ≤ s.size ∧ i = .int .i64 k ∧ n = .int .u32 ((M.crc (s.data.toList.take k) : Nat) : Int)) (fun _ i => s.size - (intOf i).toNat)
  case atStart => exact ⟨0, Nat.zero_le _, rfl, rfl⟩
  case round =>
    obtain ⟨k, hk, rfl, rfl⟩ := hrel
    by_cases hlt : k < s.size
    · have hR := M.crc_lt (s.data.toList.take k)
      have HS : Hid (M.crc (s.data.toList.take (k + 1)) = M.byt (M.crc (s.data.toList.take k)) s[k].toNat) := by
        show _ = _; rw [M.take_snoc s k hlt, M.crc_snoc]
      generalize M.crc (s.data.toList.take k) = R at hR HS ⊢
      have hc := s[k].toNat_lt
      go_wp2
      go_loop [3, 5] (fun n i => ∃ b : Nat, b ≤ 8 ∧ i = .int .i64 b ∧ n = .int .u32 ((M.bitsTo R s[k].toNat b : Nat) : Int)) (fun _ i => 8 - (intOf i).toNat)
      case atStart => exact ⟨0, Nat.zero_le _, rfl, rfl⟩
      case round =>
        obtain ⟨b, hb, rfl, rfl⟩ := hrel
        have hB := M.bitsTo_lt R s[k].toNat hR b
        have HB : Hid (M.bitsTo R s[k].toNat (b + 1) = M.bitStep (M.bitsTo R s[k].toNat b) s[k].toNat b) := rfl
        by_cases hb8 : b < 8
        · generalize M.bitsTo R s[k].toNat b = T at hB HB ⊢
          obtain ⟨X, e1, e2, e3⟩ := M.bit_round T s[k].toNat b hB (by omega)
          have HB2 : Hid (M.bitsTo R s[k].toNat (b + 1) = if X % 2 = 1 then T / 2 ^^^ 3988292384 else T / 2) := HB.out.trans e3
          clear HB e3
          generalize T / 2 ^^^ 3988292384 = Y at *
          by_cases hx : X % 2 = 1
          · have HB3 : Hid (M.bitsTo R s[k].toNat (b + 1) = Y) := HB2.out.trans (if_pos hx)
            have q : ((X : Int) % 2 == 1) = true := by rw [beq_iff_eq]; omega
            clear HB2
            go_wp2
            go_round
            case rel => exact ⟨b + 1, by omega, by go_num, by rw [HB3.out]⟩
            case measure => simp [intOf]; omega
          · have HB3 : Hid (M.bitsTo R s[k].toNat (b + 1) = T / 2) := HB2.out.trans (if_neg hx)
            have q : ((X : Int) % 2 == 1) = false := by rw [beq_eq_false_iff_ne]; omega
            clear HB2
            go_wp2
            go_round
            case rel => exact ⟨b + 1, by omega, by go_num, by rw [HB3.out]; go_num⟩
            case measure => simp [intOf]; omega
        · obtain rfl : b = 8 := by omega
          have H8 : Hid (M.bitsTo R s[k].toNat 8 = M.byt R s[k].toNat) := M.bits_byt R _ (by omega)
          clear HB
          generalize M.bitsTo R s[k].toNat 8 = Z at *
          go_wp2
          go_round
          case rel => exact ⟨k + 1, by omega, by go_num, by rw [HS.out, ← H8.out]⟩
          case measure => simp [intOf]; omega
    · have HE : Hid (M.crc (s.data.toList.take k) = M.crc s.data.toList) := by
        show _ = _; rw [List.take_of_length_le (by simp; omega)]
      have hR := M.crc_lt (s.data.toList.take k)
      have HF : Hid (M.sum s.data.toList = 4294967295 - M.crc (s.data.toList.take k)) := by show _ = _; rw [HE.out]; rfl
      generalize M.crc (s.data.toList.take k) = R at *
      go_wp2
      go_ret
      exact ⟨by rw [HF.out]; exact ret_u32 R hR, rfl⟩

set_option maxRecDepth 20000 in
set_option maxHeartbeats 400000 in
theorem rseal_any (l : List UInt8) (w : World) (hs : l.length ≤ 10000) :
    Calls Tryd.prog 44 #[.string (M.bs l)] w fun e w' => e = .returned (.string (M.bs (M.sealL l))) ∧ Bel w w' := by
  have k1 := conv1
  have H := rsum_any (M.bs l) w (by rw [M.bs_size]; unfold maxLen; omega)
  rw [M.bs_data] at H
  have HE : Hid (M.sealL l = l ++ M.tailTo (M.sum l) 4) := by show _ = _; rw [M.tailTo_four]; rfl
  have hn := M.sum_lt l
  generalize M.sum l = n at *
  have h0 : Hid (M.bs l = M.bs (l ++ M.tailTo n 0)) := by show _ = _; rw [M.tailTo, List.range_zero, List.map_nil, List.append_nil]
  go_enter Tryd.func44, Tryd.ntmps44
  go_wp2_with fail
  refine H.mono ?_
  rintro e w1 ⟨rfl, rfl⟩
  go_wp2_with fail
  go_loopw [0, 3, 4] (fun s c i wr => ∃ k : Nat, k ≤ 4 ∧ i = .int .i64 k ∧ c = .int .u32 ((n / 256 ^ k : Nat) : Int) ∧ s = .string (M.bs (l ++ M.tailTo n k)) ∧ Bel w wr) (fun _ _ i _ => 4 - (intOf i).toNat)
  case atStart => exact ⟨0, Nat.zero_le _, rfl, by simp, by rw [h0.out], Below.refl _ _⟩
  case round =>
    obtain ⟨k, hk, rfl, rfl, rfl, hb⟩ := hrel
    have hX : n / 256 ^ k < 4294967296 := Nat.lt_of_le_of_lt (Nat.div_le_self _ _) hn
    have hz : (M.bs (l ++ M.tailTo n k)).size ≤ 20000 := by rw [M.bs_size, List.length_append, M.tailTo_length]; omega
    have hb1 : ∀ b, (M.bs [b]).size = 1 := fun b => M.bs_size [b]
    have HS : Hid (∀ b, b = UInt8.ofNat (n / 256 ^ k) → M.bs (l ++ M.tailTo n k) ++ M.bs [b] = M.bs (l ++ M.tailTo n (k + 1))) := by
      intro b hb; subst hb; rw [M.bs_append, M.tailTo_succ, List.append_assoc]
    have HN : Hid (n / 256 ^ (k + 1) = n / 256 ^ k / 256) := by show _ = _; rw [Nat.pow_succ, Nat.div_div_eq_div_mul]
    obtain ⟨S, hS⟩ : ∃ S, S = M.bs (l ++ M.tailTo n k) := ⟨_, rfl⟩
    rw [← hS] at hz HS ⊢
    have HSS : Hid (S = M.bs (l ++ M.tailTo n k)) := hS
    clear hS
    generalize n / 256 ^ k = X at *
    by_cases hlt : k < 4
    · go_wp2
      go_roundw
      case rel => exact ⟨k + 1, by omega, by go_num, by rw [HN.out]; go_num, by rw [HS.out _ (M.ofNat_mod X)], hb.al _⟩
      case measure => simp [intOf]; omega
    · obtain rfl : k = 4 := by omega
      go_wp2
      go_ret
      exact ⟨by rw [HE.out, ← HSS.out]; rfl, hb⟩

end Go.Proofs.YtaepbmcmggnmpaaDoor
