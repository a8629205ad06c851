/-
  The contracts of the document's own answers for layer 2 (concordanceref02), walked.
-/
import Derived.Test.YtaepbmcmggnmpaaV
import Derived.Test.YtaepbmcmggnmpaaN
namespace Go.Proofs.Ytaepbmcmggnmpaa
open Go.RowKit
set_option maxRecDepth 100000

theorem conv1 (W : World) (b0 : Int) : (convert 70 9 (.slice (some ⟨W.heap.size, 0, none⟩) 1 1)).run Try.prog (W.alloc (.cells #[.int .u8 b0] 5)) =
    .ok (.string (M.bs [UInt8.ofNat b0.toNat])) (W.alloc (.cells #[.int .u8 b0] 5)) := by
  refine run_convert_bytes_arg (P := Try.prog) _ 70 5 Try.underlying70 Try.underlying5 W.heap.size 0 1 1 [b0] rfl ?_ 9 Try.underlying9
  intro i hi
  match i, hi with
  | 0, _ => simp [World.cell?_alloc_at]

set_option maxHeartbeats 400000 in
theorem rget_any (s : ByteArray) (w : World) (hs : s.size ≤ maxLen) :
    Calls Try.prog 49 #[.string s] w fun e w' => e = .returned (.int .i64 ((M.get s.data.toList : Nat) : Int)) ∧ w = w' := by
  have hl : Hid (s.size = s.data.toList.length) := Lib.size_eq s
  unfold maxLen at hs
  by_cases h7 : 7 < s.size
  · have HG : Hid (M.get s.data.toList = 0) := by show _ = _; unfold M.get; rw [if_neg (by rw [← hl.out]; omega)]
    go_enter Try.func49, Try.ntmps49
    go_wp2
    refine wp_loop_rounds 1 ?_
    rw [rounds_succ]
    go_wp2
    go_ret
    exact ⟨by rw [HG.out]; rfl, rfl⟩
  · have HG : Hid (M.get s.data.toList = M.getN s.data.toList) := by show _ = _; unfold M.get; rw [if_pos (by rw [← hl.out]; omega)]
    go_enter Try.func49, Try.ntmps49
    go_wp2
    go_loop [3, 4] (fun n i => ∃ k : Nat, k ≤ s.size ∧ i = .int .i64 k ∧ n = .int .i64 ((M.getN (s.data.toList.take k) : Nat) : Int)) (fun _ i => s.size - (intOf i).toNat)
    case atStart => exact ⟨0, Nat.zero_le _, rfl, rfl⟩
    case round =>
      obtain ⟨k, hk, rfl, rfl⟩ := hrel
      by_cases hlt : k < s.size
      · have HS : Hid (M.getN (s.data.toList.take (k + 1)) = M.getN (s.data.toList.take k) * 256 + s[k].toNat) := by
          show _ = _; rw [M.take_snoc s k hlt, M.getN_snoc]
        have hb := M.getN_lt (s.data.toList.take k)
        rw [List.length_take_of_le (by rw [← hl.out]; omega)] at hb
        have hb6 : M.getN (s.data.toList.take k) < 281474976710656 := Nat.lt_of_lt_of_le hb (show 256 ^ k ≤ 256 ^ 6 from Nat.pow_le_pow_right (by decide) (by omega))
        clear hb
        generalize M.getN (s.data.toList.take k) = N at hb6 HS ⊢
        have hc := s[k].toNat_lt
        go_wp2
        go_round
        case rel => exact ⟨k + 1, by omega, by go_num, by rw [HS.out]; go_num⟩
        case measure => simp [intOf]; omega
      · have HE : Hid (M.getN (s.data.toList.take k) = M.getN s.data.toList) := by
          show _ = _; rw [List.take_of_length_le (by rw [← hl.out]; omega)]
        go_wp2
        go_ret
        exact ⟨by rw [HG.out, ← HE.out]; rfl, rfl⟩

def rputL (z n : Nat) : List UInt8 := if n / 256 ^ z = 0 then M.putL z n else []
theorem byte_of (X : Nat) : UInt8.ofNat ((X : Int) % 256).toNat = UInt8.ofNat X := by
  rw [show ((X : Int) % 256).toNat = X % 256 by omega, M.ofNat_mod]
set_option maxHeartbeats 400000 in
theorem rput_loop (n z : Nat) (w : World) (h1 : 1 ≤ z) (h7 : z ≤ 7) (hn : n ≤ 9223372036854775807) :
    Calls Try.prog 25 #[.int .i64 (n : Int), .int .i64 (z : Int)] w fun e w' => e = .returned (.string (M.bs (rputL z n))) ∧ Bel w w' := by
  have k1 := conv1
  go_enter Try.func25, Try.ntmps25
  go_wp2
  go_loopw [0, 5, 6] (fun m s i wr => ∃ k : Nat, k ≤ z ∧ i = .int .i64 k ∧ m = .int .i64 ((n / 256 ^ k : Nat) : Int) ∧ s = .string (M.bs (M.putL k n)) ∧ Bel w wr) (fun _ _ i _ => z - (intOf i).toNat)
  case atStart => exact ⟨0, Nat.zero_le _, rfl, by simp, rfl, Below.refl _ _⟩
  case round =>
    obtain ⟨k, hk, rfl, rfl, rfl, hb⟩ := hrel
    have hX : n / 256 ^ k ≤ 9223372036854775807 := Nat.le_trans (Nat.div_le_self _ _) hn
    have hz : (M.bs (M.putL k n)).size = k := by rw [M.bs_size, M.putL_length]
    have hb1 : ∀ b, (M.bs [b]).size = 1 := fun b => M.bs_size [b]
    have HS : Hid (M.putL (k + 1) n = UInt8.ofNat (n / 256 ^ k) :: M.putL k n) := M.putL_succ k n
    have HN : Hid (n / 256 ^ (k + 1) = n / 256 ^ k / 256) := by show _ = _; rw [Nat.pow_succ, Nat.div_div_eq_div_mul]
    obtain ⟨S, hS⟩ : ∃ S, S = M.bs (M.putL k n) := ⟨_, rfl⟩
    rw [← hS] at hz ⊢
    have HSS : Hid (S = M.bs (M.putL k n)) := hS
    clear hS
    obtain ⟨X, hXe⟩ : ∃ X, X = n / 256 ^ k := ⟨_, rfl⟩
    rw [← hXe] at hX HS HN ⊢
    have HX : Hid (X = n / 256 ^ k) := hXe
    clear hXe
    by_cases hlt : k < z
    · go_wp2
      go_roundw
      case rel => exact ⟨k + 1, by omega, by go_num, by rw [HN.out]; go_num, by rw [HSS.out, M.bs_append, HS.out]; exact congrArg (fun b => Value.string (M.bs (b :: M.putL k n))) (byte_of X), hb.al _⟩
      case measure => simp [intOf]; omega
    · obtain rfl : k = z := by omega
      by_cases h0 : X = 0
      · have h00 : Hid (rputL k n = M.putL k n) := by show _ = _; unfold rputL; rw [if_pos (by rw [← HX.out]; exact h0)]
        go_wp2
        go_ret
        exact ⟨by rw [h00.out, ← HSS.out]; rfl, hb⟩
      · have h00 : Hid (rputL k n = []) := by show _ = _; unfold rputL; rw [if_neg (by rw [← HX.out]; exact h0)]
        have h01 : 0 < X := by omega
        clear h0
        go_wp2
        go_ret
        exact ⟨by rw [h00.out]; rfl, hb⟩

theorem rput_nil (n s : Int) (w : World) (h : s < 1 ∨ 7 < s ∨ (1 ≤ s ∧ s ≤ 7 ∧ n < 0)) :
    Calls Try.prog 25 #[.int .i64 n, .int .i64 s] w fun e w' => e = .returned (.string (M.bs [])) ∧ w = w' := by
  rcases h with h | h | ⟨h1, h2, h⟩
  · go_enter Try.func25, Try.ntmps25
    go_wp2
    go_ret
    exact ⟨rfl, rfl⟩
  · have h1 : 1 ≤ s := by omega
    go_enter Try.func25, Try.ntmps25
    go_wp2
    go_ret
    exact ⟨rfl, rfl⟩
  · go_enter Try.func25, Try.ntmps25
    go_wp2
    go_ret
    exact ⟨rfl, rfl⟩
theorem rput_any (n s : Int) (w : World) (hn : -9223372036854775808 ≤ n ∧ n ≤ 9223372036854775807) :
    Calls Try.prog 25 #[.int .i64 n, .int .i64 s] w fun e w' => e = .returned (.string (M.bs (M.put n s))) ∧ Bel w w' := by
  by_cases hx : s < 1 ∨ 7 < s ∨ (1 ≤ s ∧ s ≤ 7 ∧ n < 0)
  · have e : M.put n s = [] := by unfold M.put; rw [if_neg (by omega)]
    rw [e]
    exact (rput_nil n s w hx).mono fun e w' ⟨he, hw⟩ => ⟨he, hw ▸ Below.refl _ _⟩
  · obtain ⟨n, rfl⟩ := Int.eq_ofNat_of_zero_le (show 0 ≤ n by omega)
    obtain ⟨s, rfl⟩ := Int.eq_ofNat_of_zero_le (show 0 ≤ s by omega)
    have h := rput_loop n s w (by omega) (by omega) (by omega)
    have e : M.put (n : Int) (s : Int) = rputL s n := by
      unfold M.put rputL
      simp only [Int.toNat_natCast]
      rw [show (2 : Nat) ^ (8 * s) = 256 ^ s by rw [Nat.pow_mul]]
      by_cases h0 : n / 256 ^ s = 0
      · rw [if_pos ⟨by omega, by omega, by omega, h0⟩, if_pos h0]
      · rw [if_neg (fun hh => h0 hh.2.2.2), if_neg h0]
    rw [e]
    exact h

end Go.Proofs.Ytaepbmcmggnmpaa
