/-
  The contracts of sum.Get and of the document's, walked.
-/
import Derived.Test.YtcmplklefeicbaaEC
namespace Go.Proofs.Ytcmplklefeicbaa.M
open Go.RowKit
theorem take_snoc (s : ByteArray) (k : Nat) (h : k < s.size) : s.data.toList.take (k + 1) = s.data.toList.take k ++ [s[k]] := by
  rw [List.take_succ_eq_append_getElem (by simpa using h)]; rfl
theorem wrap_i64_nat (n : Nat) (h : n < 9223372036854775808) : IntKind.i64.wrap (n : Int) = (n : Int) := by
  rw [IntKind.wrap_i64]; omega
theorem i64_or_nat (a b : Nat) (ha : a < 9223372036854775808) (hb : b < 9223372036854775808) : bits .or .i64 (a : Int) (b : Int) = ((a ||| b : Nat) : Int) := by
  show IntKind.i64.wrap ((BitVec.ofInt 64 (a : Int) ||| BitVec.ofInt 64 (b : Int)).toNat : Int) = _
  rw [BitVec.toNat_or, ofInt_u64 a (by omega), ofInt_u64 b (by omega)]
  exact wrap_i64_nat _ (Nat.or_lt_two_pow (n := 63) ha hb)
theorem join8 (a c : Nat) (hc : c < 256) : (a * 256) ||| c = a * 256 + c := nat_join 8 _ _ (by omega) (by omega)
def getN (l : List UInt8) : Nat := l.foldl (fun n c => n * 256 + c.toNat) 0
theorem getN_snoc (l : List UInt8) (c : UInt8) : getN (l ++ [c]) = getN l * 256 + c.toNat := by simp [getN, List.foldl_append]
theorem getN_lt (l : List UInt8) : getN l < 256 ^ l.length := by
  suffices ∀ (m : Nat) (l : List UInt8), l.length = m → getN l < 256 ^ l.length from this _ l rfl
  intro m
  induction m with
  | zero => intro l h; rw [List.length_eq_zero_iff.1 h]; decide
  | succ m ih =>
    intro l h
    obtain ⟨l', c, rfl⟩ : ∃ l' c, l = l' ++ [c] := ⟨l.dropLast, l.getLast (by intro e; simp [e] at h), (List.dropLast_concat_getLast _).symm⟩
    have := ih l' (by simpa using h)
    have hc := c.toNat_lt
    rw [getN_snoc, List.length_append]
    simp only [List.length_cons, List.length_nil, Nat.pow_add, Nat.zero_add, Nat.pow_one]
    omega
def getB (l : List UInt8) : Nat := if l.length ≤ 7 then getN l else 0
end Go.Proofs.Ytcmplklefeicbaa.M
namespace Go.Proofs.Ytcmplklefeicbaa
open Go.RowKit
set_option maxRecDepth 20000 in
set_option maxHeartbeats 400000 in
theorem get_any (s : ByteArray) (w : World) (hs : s.size ≤ maxLen) :
    Calls Try.prog 42 #[.string s] w fun e w' => e = .returned (.int .i64 ((M.getB s.data.toList : Nat) : Int)) ∧ w = w' := by
  have hl : Hid (s.size = s.data.toList.length) := Lib.size_eq s
  unfold maxLen at hs
  by_cases h7 : 7 < s.size
  · have HG : Hid (M.getB s.data.toList = 0) := by show _ = _; unfold M.getB; rw [if_neg (by rw [← hl.out]; omega)]
    go_enter Try.func42, Try.ntmps42
    go_wp2
    go_ret
    exact ⟨by rw [HG.out]; rfl, rfl⟩
  · have HG : Hid (M.getB s.data.toList = M.getN s.data.toList) := by show _ = _; unfold M.getB; rw [if_pos (by rw [← hl.out]; omega)]
    go_enter Try.func42, Try.ntmps42
    go_wp2
    go_loop [3, 10] (fun n i => ∃ k : Nat, k ≤ s.size ∧ i = .int .i64 k ∧ n = .int .i64 ((M.getN (s.data.toList.take k) : Nat) : Int)) (fun _ i => s.size - (intOf i).toNat)
    case atStart => exact ⟨0, Nat.zero_le _, rfl, rfl⟩
    case round =>
      obtain ⟨k, hk, rfl, rfl⟩ := hrel
      by_cases hlt : k < s.size
      · have HS : Hid (M.getN (s.data.toList.take (k + 1)) = M.getN (s.data.toList.take k) * 256 + s[k].toNat) := by
          show _ = _; rw [M.take_snoc s k hlt, M.getN_snoc]
        have hb := M.getN_lt (s.data.toList.take k)
        rw [List.length_take_of_le (by rw [← hl.out]; omega)] at hb
        have hb6 : M.getN (s.data.toList.take k) < 281474976710656 := Nat.lt_of_lt_of_le hb (show 256 ^ k ≤ 256 ^ 6 from Nat.pow_le_pow_right (by decide) (by omega))
        clear hb
        generalize M.getN (s.data.toList.take k) = N at hb6 HS ⊢
        have hc := s[k].toNat_lt
        have e1 : bits .or .i64 ((N : Int) * 256) (s[k].toNat : Int) = ((N * 256 + s[k].toNat : Nat) : Int) := by
          rw [← M.join8 N _ (by omega), ← M.i64_or_nat _ _ (by omega) (by omega)]; rfl
        go_wp2
        go_round
        case rel => exact ⟨k + 1, by omega, by go_num, by rw [HS.out]; go_num⟩
        case measure => simp [intOf]; omega
      · have HE : Hid (M.getN (s.data.toList.take k) = M.getN s.data.toList) := by
          show _ = _; rw [List.take_of_length_le (by rw [← hl.out]; omega)]
        go_wp2
        go_ret
        exact ⟨by rw [HG.out, ← HE.out]; rfl, rfl⟩
set_option maxRecDepth 20000 in
set_option maxHeartbeats 400000 in
theorem rget_any (s : ByteArray) (w : World) (hs : s.size ≤ maxLen) :
    Calls Try.prog 26 #[.string s] w fun e w' => e = .returned (.int .i64 ((M.getB s.data.toList : Nat) : Int)) ∧ w = w' := by
  have hl : Hid (s.size = s.data.toList.length) := Lib.size_eq s
  unfold maxLen at hs
  by_cases h7 : 7 < s.size
  · have HG : Hid (M.getB s.data.toList = 0) := by show _ = _; unfold M.getB; rw [if_neg (by rw [← hl.out]; omega)]
    go_enter Try.func26, Try.ntmps26
    go_wp2
    refine wp_loop_rounds 1 ?_
    rw [rounds_succ]
    go_wp2
    go_ret
    exact ⟨by rw [HG.out]; rfl, rfl⟩
  · have HG : Hid (M.getB s.data.toList = M.getN s.data.toList) := by show _ = _; unfold M.getB; rw [if_pos (by rw [← hl.out]; omega)]
    go_enter Try.func26, Try.ntmps26
    go_wp2
    go_loop [3, 4] (fun n i => ∃ k : Nat, k ≤ s.size ∧ i = .int .i64 k ∧ n = .int .i64 ((M.getN (s.data.toList.take k) : Nat) : Int)) (fun _ i => s.size - (intOf i).toNat)
    case atStart => exact ⟨0, Nat.zero_le _, rfl, rfl⟩
    case round =>
      obtain ⟨k, hk, rfl, rfl⟩ := hrel
      by_cases hlt : k < s.size
      · have HS : Hid (M.getN (s.data.toList.take (k + 1)) = M.getN (s.data.toList.take k) * 256 + s[k].toNat) := by
          show _ = _; rw [M.take_snoc s k hlt, M.getN_snoc]
        have hb := M.getN_lt (s.data.toList.take k)
        rw [List.length_take_of_le (by rw [← hl.out]; omega)] at hb
        have hb6 : M.getN (s.data.toList.take k) < 281474976710656 := Nat.lt_of_lt_of_le hb (show 256 ^ k ≤ 256 ^ 6 from Nat.pow_le_pow_right (by decide) (by omega))
        clear hb
        generalize M.getN (s.data.toList.take k) = N at hb6 HS ⊢
        have hc := s[k].toNat_lt
        go_wp2
        go_round
        case rel => exact ⟨k + 1, by omega, by go_num, by rw [HS.out]; go_num⟩
        case measure => simp [intOf]; omega
      · have HE : Hid (M.getN (s.data.toList.take k) = M.getN s.data.toList) := by
          show _ = _; rw [List.take_of_length_le (by rw [← hl.out]; omega)]
        go_wp2
        go_ret
        exact ⟨by rw [HG.out, ← HE.out]; rfl, rfl⟩

end Go.Proofs.Ytcmplklefeicbaa
