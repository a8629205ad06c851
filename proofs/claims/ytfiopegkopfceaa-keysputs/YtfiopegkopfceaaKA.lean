/-
  The contracts of keys.After and concordanceref01.Bytes, walked.
-/
import Derived.Test.YtfiopegkopfceaaKS
import Derived.Deep.QuietTactic
import Derived.BigQuiet
namespace Go.Proofs.Ytfiopegkopfceaa
open Go.RowKit

theorem conv1 (W : World) (b0 : Int) : (convert 53 9 (.slice (some ⟨W.heap.size, 0, none⟩) 1 1)).run Try.prog (W.alloc (.cells #[.int .u8 b0] 5)) =
    .ok (.string (M.bs [UInt8.ofNat b0.toNat])) (W.alloc (.cells #[.int .u8 b0] 5)) := by
  refine run_convert_bytes_arg (P := Try.prog) _ 53 5 Try.underlying53 Try.underlying5 W.heap.size 0 1 1 [b0] rfl ?_ 9 Try.underlying9
  intro i hi
  match i, hi with
  | 0, _ => simp [World.cell?_alloc_at]

theorem conv1d (W : World) (b0 : Int) : (convert 53 9 (.slice (some ⟨W.heap.size, 0, none⟩) 1 1)).run Try.prog (W.alloc (.cells #[.int .u8 b0] 5)).drew =
    .ok (.string (M.bs [UInt8.ofNat b0.toNat])) (W.alloc (.cells #[.int .u8 b0] 5)).drew := by
  refine run_convert_bytes_arg (P := Try.prog) _ 53 5 Try.underlying53 Try.underlying5 W.heap.size 0 1 1 [b0] rfl ?_ 9 Try.underlying9
  intro i hi
  match i, hi with
  | 0, _ => simp [World.cell?_alloc_at]
/-- What 'After' answers. -/
def Aft (l x : List UInt8) : Prop := ∃ (p q : List UInt8), (∀ c ∈ q, c = 255) ∧ ((l = q ∧ x = []) ∨ ∃ c : UInt8, c ≠ 255 ∧ l = p ++ c :: q ∧ x = p ++ [c + 1])

set_option maxHeartbeats 1000000 in
theorem after_any (s : ByteArray) (w : World) (hs : s.size ≤ 1000) :
    Calls Try.prog 20 #[.string s] w fun e w' => ∃ x, e = .returned (.string (M.bs x)) ∧ Aft s.data.toList x ∧ Bel w w' := by
  have hl : Hid (s.size = s.data.toList.length) := Lib.size_eq s
  have k1 := conv1
  have k2 := conv1d
  go_enter Try.func20, Try.ntmps20
  go_wp2
  go_loop [3] (fun n => ∃ k : Nat, k ≤ s.size ∧ n = .int .i64 k ∧ ∀ c ∈ s.data.toList.drop k, c = 255) (fun n => (intOf n).toNat)
  case atStart => exact ⟨s.size, Nat.le_refl _, rfl, by rw [List.drop_eq_nil_of_le (by rw [← hl.out]; omega)]; simp⟩
  case round =>
    obtain ⟨k, hk, rfl, hall⟩ := hrel
    have HA : Hid (∀ c ∈ s.data.toList.drop k, c = 255) := hall
    clear hall
    by_cases h0 : k = 0
    · subst h0
      go_wp2
      go_ret
      exact ⟨[], rfl, ⟨[], s.data.toList, by simpa using HA.out, .inl ⟨rfl, rfl⟩⟩, Below.refl _ _⟩
    · obtain ⟨j, rfl⟩ : ∃ j, k = j + 1 := ⟨k - 1, by omega⟩
      have hj : j < s.size := by omega
      clear h0
      have hd := M.drop_at s j hj
      by_cases h255 : s[j] = 255
      · have q : ((s[j].toNat : Int) == 255) = true := by rw [h255]; rfl
        have HN : Hid (∀ c ∈ s.data.toList.drop j, c = 255) := by
          intro c hc; rw [hd, List.mem_cons] at hc
          rcases hc with rfl | hc
          · exact h255
          · exact HA.out c hc
        clear h255 hd
        go_wp2
        go_round
        case rel => exact ⟨j, by omega, by go_num, HN.out⟩
        case measure => simp [intOf]
      · have q : ((s[j].toNat : Int) == 255) = false := by
          rw [beq_eq_false_iff_ne]; intro e; apply h255; apply UInt8.toNat_inj.1
          have : s[j].toNat = 255 := by omega
          rw [this]; rfl
        have hc := s[j].toNat_lt
        have hc2 : s[j].toNat < 255 := by
          have : s[j].toNat ≠ 255 := fun e => h255 (UInt8.toNat_inj.1 (by rw [e]; rfl))
          omega
        have HF : Hid (s.data.toList = s.data.toList.take j ++ s[j] :: s.data.toList.drop (j + 1)) := by
          show _ = _; rw [← hd, List.take_append_drop]
        have H5 : Hid (s[j] ≠ 255) := h255
        clear h255 hd
        have e1 : IntKind.u8.wrap ((s[j].toNat : Int) + 1) = (s[j].toNat : Int) + 1 := by rw [IntKind.wrap_u8']; omega
        have e2 : IntKind.i64.wrap ((j : Int) + 1 - 1) = (j : Int) := by rw [IntKind.wrap_i64]; omega
        have e3 : (s.extract 0 j).size ≤ 1000 := by rw [M.extract_bs, M.bs_size, List.length_take, List.length_drop, ← hl.out]; omega
        have e4 : ∀ W b, (Op.stringOp .add (s.extract 0 j) (M.bs [b])).run Try.prog W = .ok (.string (s.extract 0 j ++ M.bs [b])) W := fun W b => run_string_add_sum _ _ _ (by rw [M.bs_size]; simp; omega)
        have p1 : (0 : Int) ≤ (j : Int) := by omega
        have p2 : (j : Int) ≤ (s.size : Int) := by omega
        have p3 : (j : Int) < (s.size : Int) := by omega
        have HX : Hid (s.extract 0 j ++ M.bs [s[j] + 1] = M.bs (s.data.toList.take j ++ [s[j] + 1])) := by
          show _ = _
          rw [M.extract_bs, List.drop_zero, Nat.sub_zero, M.bs_append]
        go_wp2
        go_region
        all_goals go_wp2
        all_goals go_ret
        all_goals exact ⟨_, by rw [← HX.out]; rfl, ⟨s.data.toList.take j, s.data.toList.drop (j + 1), HA.out, .inr ⟨s[j], H5.out, HF.out, rfl⟩⟩, Bel.dr (Bel.al (Below.refl _ _) _)⟩
set_option maxHeartbeats 1000000 in
theorem bytes_any (a b : ByteArray) (w : World) (ha : a.size ≤ 1000000) (hb : b.size ≤ 1000000) :
    Calls Try.prog 18 #[.string a, .string b] w fun e w' => e = .returned (.int .i64 (Lib.compareBytes a.data.toList b.data.toList)) ∧ Bel w w' := by
  have hla : Hid (a.size = a.data.toList.length) := Lib.size_eq a
  have hlb : Hid (b.size = b.data.toList.length) := Lib.size_eq b
  obtain ⟨R, hR⟩ : ∃ R, Lib.compareBytes a.data.toList b.data.toList = R := ⟨_, rfl⟩
  rw [hR]
  have HR : Hid (Lib.compareBytes a.data.toList b.data.toList = R) := hR
  clear hR
  go_enter Try.func18, Try.ntmps18
  go_wp2
  go_loopw [5] (fun i wr => ∃ k : Nat, k ≤ a.size ∧ k ≤ b.size ∧ i = .int .i64 k ∧ Lib.compareBytes (a.data.toList.drop k) (b.data.toList.drop k) = R ∧ Bel w wr) (fun i _ => a.size - (intOf i).toNat)
  case atStart => exact ⟨0, by omega, by omega, rfl, HR.out, Below.refl _ _⟩
  case round =>
    obtain ⟨k, hk1, hk2, rfl, hcmp, hbel⟩ := hrel
    have HC : Hid (Lib.compareBytes (a.data.toList.drop k) (b.data.toList.drop k) = R) := hcmp
    clear hcmp HR
    by_cases hka : k < a.size
    · by_cases hkb : k < b.size
      · rw [Hid, M.drop_at a k hka, M.drop_at b k hkb, Lib.compareBytes] at HC
        have p1 : (0 : Int) ≤ (k : Int) := by omega
        have p2 : (k : Int) < (a.size : Int) := by omega
        have p3 : (k : Int) < (b.size : Int) := by omega
        rcases Nat.lt_trichotomy a[k].toNat b[k].toNat with h | h | h
        · rw [if_pos (UInt8.lt_iff_toNat_lt.2 h)] at HC
          have HC2 : Hid (R = -1) := HC.symm
          clear HC
          have h' : (a[k].toNat : Int) < (b[k].toNat : Int) := by omega
          go_wp2
          go_quiet (fail)
          go_wp2
          go_ret
          exact ⟨by rw [HC2.out]; rfl, Bel.tr hbel (below_drewN (Below.refl _ _) _)⟩
        · rw [if_neg (by rw [UInt8.lt_iff_toNat_lt]; omega), if_neg (by rw [UInt8.lt_iff_toNat_lt]; omega)] at HC
          have HC2 : Hid (Lib.compareBytes (a.data.toList.drop (k + 1)) (b.data.toList.drop (k + 1)) = R) := HC
          clear HC
          have h' : ¬ (a[k].toNat : Int) < (b[k].toNat : Int) := by omega
          have h'' : ¬ (b[k].toNat : Int) < (a[k].toNat : Int) := by omega
          clear h
          go_wp2
          go_quiet (fail)
          go_wp2
          go_quiet (fail)
          go_wp2
          go_roundw
          case rel => exact ⟨k + 1, by omega, by omega, by go_num, HC2.out, Bel.tr hbel (below_drewN (Below.refl _ _) _)⟩
          case measure => simp [intOf]; omega
        · rw [if_neg (by rw [UInt8.lt_iff_toNat_lt]; omega), if_pos (UInt8.lt_iff_toNat_lt.2 h)] at HC
          have HC2 : Hid (R = 1) := HC.symm
          clear HC
          have h' : ¬ (a[k].toNat : Int) < (b[k].toNat : Int) := by omega
          have h'' : (b[k].toNat : Int) < (a[k].toNat : Int) := by omega
          clear h
          go_wp2
          go_quiet (fail)
          go_wp2
          go_quiet (fail)
          go_wp2
          go_ret
          exact ⟨by rw [HC2.out]; rfl, Bel.tr hbel (below_drewN (below_drewN (Below.refl _ _) _) _)⟩
      · have heb : b.data.toList.drop k = [] := List.drop_eq_nil_of_le (by rw [← hlb.out]; omega)
        rw [Hid, M.drop_at a k hka, heb, Lib.compareBytes] at HC
        clear heb
        have HC2 : Hid (R = 1) := HC.symm
        clear HC
        have h' : ¬ (a.size : Int) < (b.size : Int) := by omega
        have h'' : (b.size : Int) < (a.size : Int) := by omega
        go_wp2
        go_ret
        exact ⟨by rw [HC2.out]; rfl, hbel⟩
    · have hea : a.data.toList.drop k = [] := List.drop_eq_nil_of_le (by rw [← hla.out]; omega)
      rw [Hid, hea] at HC
      by_cases hkb : k < b.size
      · rw [M.drop_at b k hkb, Lib.compareBytes] at HC
        have HC2 : Hid (R = -1) := HC.symm
        clear HC hea
        have h' : (a.size : Int) < (b.size : Int) := by omega
        go_wp2
        go_ret
        exact ⟨by rw [HC2.out]; rfl, hbel⟩
      · have heb : b.data.toList.drop k = [] := List.drop_eq_nil_of_le (by rw [← hlb.out]; omega)
        rw [heb, Lib.compareBytes] at HC
        clear heb
        have HC2 : Hid (R = 0) := HC.symm
        clear HC hea
        have h' : ¬ (a.size : Int) < (b.size : Int) := by omega
        have h'' : ¬ (b.size : Int) < (a.size : Int) := by omega
        go_wp2
        go_ret
        exact ⟨by rw [HC2.out]; rfl, hbel⟩
end Go.Proofs.Ytfiopegkopfceaa
