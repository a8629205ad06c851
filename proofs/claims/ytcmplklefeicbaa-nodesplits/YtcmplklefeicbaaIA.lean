/-
  The document's Sizes, walked; where a node is split.
-/
import Derived.Test.YtcmplklefeicbaaGD
namespace Go.Proofs.Ytcmplklefeicbaa
open Go.RowKit
set_option maxRecDepth 100000

set_option maxHeartbeats 2000000 in
theorem sizes_some (es : List M.En) (b off cap : Nat) (w : World) (hl : es.length ≤ 1000) (h3 : ∀ e ∈ es, e.1.length ≤ 1000 ∧ e.2.1.length ≤ 1000) (hv : Row3 w b off es) (hL : 0 < es.length) :
    Calls Try.prog 34 #[.slice (some ⟨b, off, none⟩) es.length cap] w fun e w' => e = .returned (.int .i64 (M.szs es : Int)) ∧ Bel w w' := by
  have hbw := hv.lt hL
  go_enter Try.func34, Try.ntmps34
  go_wp2_with fail
  go_loopw [3, 4] (fun fv i wr => ∃ k : Nat, k ≤ es.length ∧ i = .int .i64 k ∧ fv = .int .i64 (M.szs (es.take k) : Int) ∧ Bel w wr) (fun _ i _ => es.length - (intOf i).toNat)
  case atStart => exact ⟨0, Nat.zero_le _, rfl, by simp [M.szs], Below.refl _ _⟩
  case round =>
    obtain ⟨k, hk, rfl, rfl, hb⟩ := hrel
    by_cases hlt : k < es.length
    · obtain ⟨d1, d2, d3⟩ := (hv.below hb hbw) k hlt
      have hkl : (k : Int) < (es.length : Int) := by omega
      have he := h3 es[k] (List.getElem_mem hlt)
      have HT : Hid (M.szs (es.take (k + 1)) = M.szs (es.take k) + M.szE es[k]) := by show _ = _; rw [List.take_succ_eq_append_getElem hlt, M.szs_snoc]
      have hsz := szs_take_le es hl h3 k
      clear h3 d3
      generalize es[k] = v at *
      obtain ⟨kk, vv, mm⟩ := v
      simp only at he d1 d2
      have hze : Hid (M.szE (kk, vv, mm) = 3 + kk.length + vv.length) := rfl
      have z1 : (M.bs kk).size = kk.length := M.bs_size _
      have z2 : (M.bs vv).size = vv.length := M.bs_size _
      generalize M.szs (es.take k) = S at *
      go_wp2_with fail
      go_quiet (fail)
      rename_i nq
      go_wp2_with fail
      go_roundw
      case rel => exact ⟨k + 1, by omega, by go_num, by rw [HT.out, hze.out]; go_num, hb.tr (below_drewN (Below.refl _ _) _)⟩
      case measure => simp [intOf]; omega
    · have HF : Hid (M.szs (es.take k) = M.szs es) := by show _ = _; rw [List.take_of_length_le (by omega)]
      have hkl : ¬ (k : Int) < (es.length : Int) := by omega
      go_wp2_with fail
      go_ret
      exact ⟨by rw [HF.out]; rfl, hb⟩
theorem sizes_nil (a : Option Addr) (cap : Nat) (w : World) :
    Calls Try.prog 34 #[.slice a 0 cap] w fun e w' => e = .returned (.int .i64 0) ∧ Bel w w' := by
  go_enter Try.func34, Try.ntmps34
  go_wp2_with fail
  refine wp_loop_rounds 1 ?_
  rw [rounds_succ]
  go_wp2_with fail
  go_ret
  exact ⟨rfl, Below.refl _ _⟩
theorem sizes_any (es : List M.En) (x : Value) (w : World) (hl : es.length ≤ 1000) (h3 : ∀ e ∈ es, e.1.length ≤ 1000 ∧ e.2.1.length ≤ 1000) (hv : Vals w x es) :
    Calls Try.prog 34 #[x] w fun e w' => e = .returned (.int .i64 (M.szs es : Int)) ∧ Bel w w' := by
  obtain ⟨a, cap, rfl, hv⟩ := hv
  by_cases h0 : es = []
  · subst h0; exact sizes_nil a cap w
  · obtain ⟨b, off, rfl, hr⟩ := hv.resolve_left h0
    refine sizes_some es b off cap w hl h3 hr ?_
    have : es.length ≠ 0 := fun h => h0 (List.length_eq_zero_iff.1 h)
    omega
/-- Where the document splits is where node does: the first place from 1 on whose head isn't smaller, or the last entry. -/
theorem cut_same (es : List M.En) (hL : 2 ≤ es.length) (m : Nat) (hm : m ≤ es.length) (h1 : ∀ j, j < m → M.szs (es.take j) < M.szs (es.drop j)) (h2 : M.szs (es.drop m) ≤ M.szs (es.take m))
    (i : Nat) (_hi1 : 1 ≤ i) (hi2 : i ≤ es.length - 1) (h3 : ∀ j, 1 ≤ j → j < i → M.szs (es.take j) < M.szs (es.drop j)) (h4 : i = es.length - 1 ∨ M.szs (es.drop i) ≤ M.szs (es.take i)) : i = min m (es.length - 1) := by
  have hm1 : 1 ≤ m := by
    rcases Nat.eq_zero_or_pos m with h | h
    · subst h
      obtain ⟨e, L, rfl⟩ : ∃ e L, es = e :: L := by
        cases es with
        | nil => simp at hL
        | cons e L => exact ⟨e, L, rfl⟩
      simp [M.szs, M.szE] at h2
    · exact h
  rcases Nat.lt_trichotomy i m with h | h | h
  · rcases h4 with h4 | h4
    · omega
    · have := h1 i h; omega
  · omega
  · have := h3 m hm1 h; omega
end Go.Proofs.Ytcmplklefeicbaa
