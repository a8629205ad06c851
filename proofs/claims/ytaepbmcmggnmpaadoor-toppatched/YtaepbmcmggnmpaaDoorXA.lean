/-
  The contracts of patch's end and right, walked.
-/
import Derived.Test.YtaepbmcmggnmpaaDoorXV
namespace Go.Proofs.YtaepbmcmggnmpaaDoor.Pt
open Go.RowKit
set_option maxRecDepth 100000

theorem end_any (a : Int) (t : List UInt8) (w : World) (ha : -1000000000 ≤ a ∧ a ≤ 1000000000) (ht : t.length ≤ 1000000000) :
    Calls Tryd.prog 64 #[.agg #[.int .i64 a, .string (M.bs t)]] w fun e w' => e = .returned (.int .i64 (a + (t.length : Int))) ∧ Bel w w' := by
  have hz : (M.bs t).size = t.length := M.bs_size t
  obtain ⟨h1, h2⟩ := ha
  go_enter Tryd.func64, Tryd.ntmps64
  go_wp2
  go_ret
  exact ⟨rfl, Bel.al (Below.refl _ _) _⟩

set_option maxHeartbeats 1000000 in
theorem right_some (L : List M.Pc) (b off cap : Nat) (w : World) (hv : Row2 w b off L) (hL : 0 < L.length) (hL2 : L.length ≤ 100000) (hs : ∀ p ∈ L, p.2.length ≤ 100000) :
    Calls Tryd.prog 66 #[.slice (some ⟨b, off, none⟩) L.length cap] w fun e w' => e = .returned (.bool (M.right L)) ∧ Bel w w' := by
  have hbw := hv.lt hL
  obtain ⟨R, hR⟩ : ∃ R, R = M.right L := ⟨_, rfl⟩
  rw [← hR]
  have HR : Hid (M.rightFrom 0 L = R) := hR.symm
  clear hR
  go_enter Tryd.func66, Tryd.ntmps66
  go_wp2_with fail
  go_loopw [3, 8] (fun fv i wr => ∃ (k : Nat) (f : Int), k ≤ L.length ∧ i = .int .i64 k ∧ fv = .int .i64 f ∧ 0 ≤ f ∧ f ≤ 200000 ∧ M.rightFrom f (L.drop k) = R ∧ Bel w wr) (fun _ i _ => L.length - (intOf i).toNat)
  case atStart => exact ⟨0, 0, Nat.zero_le _, rfl, rfl, by omega, by omega, HR.out, Below.refl _ _⟩
  case round =>
    obtain ⟨k, f, hk, rfl, rfl, hf0, hf1, hr, hb⟩ := hrel
    by_cases hlt : k < L.length
    · obtain ⟨c1, c2⟩ := (hv.below hb hbw) k hlt
      have hvs := hs L[k] (List.getElem_mem hlt)
      rw [List.drop_eq_getElem_cons hlt, M.rightFrom_cons] at hr
      have HS := hid hr
      clear hr hs hv
      generalize L[k] = v at *
      obtain ⟨a, t⟩ := v
      have hz : (M.bs t).size = t.length := M.bs_size t
      simp only at hvs c1 c2
      by_cases h1 : a < f
      · have HF : Hid (R = false) := by show _ = _; rw [← HS.out, if_neg (by simp only; omega)]
        clear HS
        go_wp2_with fail
        go_ret
        exact ⟨by rw [HF.out]; rfl, hb.al _⟩
      · by_cases h2 : 65535 < a
        · have HF : Hid (R = false) := by show _ = _; rw [← HS.out, if_neg (by simp only; omega)]
          clear HS
          go_wp2_with fail
          go_ret
          exact ⟨by rw [HF.out]; rfl, hb.al _⟩
        · by_cases h3 : t = []
          · have HF : Hid (R = false) := by show _ = _; rw [← HS.out, if_neg (by simp only; simp [h3])]
            have q : (M.bs t).toList = [] := by rw [M.bs_toList]; exact h3
            clear HS h3
            go_wp2_with fail
            go_ret
            exact ⟨by rw [HF.out]; rfl, hb.al _⟩
          · have q1 : (M.bs t).toList.isEmpty = false := by rw [M.bs_toList]; simpa using h3
            have q2 : ¬ (M.bs t).toList = [] := by rw [M.bs_toList]; exact h3
            by_cases h4 : 65535 < t.length
            · have HF : Hid (R = false) := by show _ = _; rw [← HS.out, if_neg (by simp only; omega)]
              clear HS h3
              go_wp2_with fail
              go_ret
              exact ⟨by rw [HF.out]; rfl, hb.al _⟩
            · have HF : Hid (M.rightFrom (a + (t.length : Int)) (L.drop (k + 1)) = R) := by show _ = _; rw [← HS.out, if_pos ⟨by simp only; omega, by simp only; omega, h3, by simp only; omega⟩]
              have H := fun W => end_any a t W (by omega) (by omega)
              clear HS h3
              go_wp2_with fail
              refine (H _).mono ?_
              rintro e w1 ⟨rfl, b1⟩
              go_wp2_with fail
              go_roundw
              case rel => exact ⟨k + 1, _, by omega, by go_num, rfl, by omega, by omega, HF.out, (hb.al _).tr b1⟩
              case measure => simp [intOf]; omega
    · have HF : Hid (R = true) := by show _ = _; rw [← hr, List.drop_of_length_le (by omega)]; rfl
      clear hr
      go_wp2_with fail
      go_ret
      exact ⟨by rw [HF.out]; rfl, hb⟩
theorem right_nil (a : Option Addr) (cap : Nat) (w : World) :
    Calls Tryd.prog 66 #[.slice a 0 cap] w fun e w' => e = .returned (.bool (M.right [])) ∧ Bel w w' := by
  go_enter Tryd.func66, Tryd.ntmps66
  go_wp2_with fail
  refine wp_loop_rounds 1 ?_
  rw [rounds_succ]
  go_wp2_with fail
  go_ret
  exact ⟨rfl, Below.refl _ _⟩
theorem right_any (L : List M.Pc) (x : Value) (w : World) (hv : Vals w x L) (hL2 : L.length ≤ 100000) (hs : ∀ p ∈ L, p.2.length ≤ 100000) :
    Calls Tryd.prog 66 #[x] w fun e w' => e = .returned (.bool (M.right L)) ∧ Bel w w' := by
  obtain ⟨a, cap, rfl, hv⟩ := hv
  by_cases h0 : L = []
  · subst h0; exact right_nil a cap w
  · obtain h | ⟨b, off, rfl, hr⟩ := hv
    · exact absurd h h0
    · refine right_some L b off cap w hr ?_ hL2 hs
      have : L.length ≠ 0 := fun h => h0 (List.length_eq_zero_iff.1 h)
      omega
end Go.Proofs.YtaepbmcmggnmpaaDoor.Pt
