/-
  The contract of the document's own Right (concordanceref06), walked.
-/
import Derived.Test.YtaepbmcmggnmpaaR
import Derived.Test.YtaepbmcmggnmpaaF
namespace Go.Proofs.Ytaepbmcmggnmpaa
open Go.RowKit
set_option maxRecDepth 100000

set_option maxHeartbeats 4000000 in
theorem rright_some (L : List M.Pc) (b off cap : Nat) (w : World) (hv : Row2 w b off L) (hL : 0 < L.length) (hL2 : L.length ≤ 65535) (hs : ∀ p ∈ L, p.2.length ≤ 100000) :
    Calls Try.prog 26 #[.slice (some ⟨b, off, none⟩) L.length cap] w fun e w' => e = .returned (.bool (M.right L)) ∧ Bel w w' := by
  have hbw := hv.lt hL
  obtain ⟨R, hR⟩ : ∃ R, R = M.right L := ⟨_, rfl⟩
  rw [← hR]
  have HR : Hid (M.rightFrom 0 L = R) := hR.symm
  clear hR
  go_enter Try.func26, Try.ntmps26
  go_wp2_with fail
  go_loopw [3] (fun i wr => ∃ (k : Nat) (f : Int), k ≤ L.length ∧ i = .int .i64 k ∧ 0 ≤ f ∧ f ≤ 200000 ∧ M.rightFrom f (L.drop k) = R ∧ (k = 0 → f = 0) ∧ (∀ m (hm : m < L.length), k = m + 1 → f = L[m].1 + (L[m].2.length : Int) ∧ 0 ≤ L[m].1 ∧ L[m].1 ≤ 65535 ∧ L[m].2.length ≤ 65535) ∧ Bel w wr) (fun i _ => L.length - (intOf i).toNat)
  case atStart => exact ⟨0, 0, Nat.zero_le _, rfl, by omega, by omega, HR.out, fun _ => rfl, fun m hm e => by omega, Below.refl _ _⟩
  case round =>
    obtain ⟨k, f, hk, rfl, hf0, hf1, hr, hk0, hkm, hb⟩ := hrel
    by_cases hlt : k < L.length
    · obtain ⟨c1, c2⟩ := (hv.below hb hbw) k hlt
      have hvs := hs L[k] (List.getElem_mem hlt)
      have HKM := hid hkm
      rw [List.drop_eq_getElem_cons hlt, M.rightFrom_cons] at hr
      have HS := hid hr
      have HV := hid hv
      have HLk : Hid (∀ a t, L[k] = (a, t) → ∀ m (hm : m < L.length), k + 1 = m + 1 → L[m] = (a, t)) := fun a t h m hm e => by
        obtain rfl : k = m := by omega
        exact h
      clear hr hs hv hkm
      generalize L[k] = v at *
      obtain ⟨a, t⟩ := v
      have hz : (M.bs t).size = t.length := M.bs_size t
      simp only at hvs c1 c2
      by_cases h1 : t.length = 0
      · have HF : Hid (R = false) := by show _ = _; rw [← HS.out, if_neg (by simp only; intro h; exact h.2.2.1 (List.length_eq_zero_iff.1 h1))]
        have q : (((t.length : Nat) : Int) == 0) = true := by simp [h1]
        clear HS h1 HKM HLk hk0
        go_wp2_with fail
        go_ret
        exact ⟨by rw [HF.out]; rfl, hb⟩
      · have q : (((t.length : Nat) : Int) == 0) = false := by rw [beq_eq_false_iff_ne]; omega
        have htn : t ≠ [] := fun e => h1 (by rw [e]; rfl)
        have HTn := hid htn
        by_cases h2 : 65535 < t.length
        · have HF : Hid (R = false) := by show _ = _; rw [← HS.out, if_neg (by simp only; omega)]
          clear HS h1 htn HTn HKM HLk hk0
          go_wp2_with fail
          go_ret
          exact ⟨by rw [HF.out]; rfl, hb⟩
        · by_cases h3 : a < 0
          · have HF : Hid (R = false) := by show _ = _; rw [← HS.out, if_neg (by simp only; omega)]
            clear HS h1 htn HTn HKM HLk hk0
            go_wp2_with fail
            go_ret
            exact ⟨by rw [HF.out]; rfl, hb⟩
          · by_cases h4 : 65535 < a
            · have HF : Hid (R = false) := by show _ = _; rw [← HS.out, if_neg (by simp only; omega)]
              clear HS h1 htn HTn HKM HLk hk0
              go_wp2_with fail
              go_ret
              exact ⟨by rw [HF.out]; rfl, hb⟩
            · clear htn h1
              match k, hk0 with
              | 0, hk0 =>
                obtain rfl := hk0 rfl
                have HF : Hid (M.rightFrom (a + (t.length : Int)) (L.drop 1) = R) := by show _ = _; rw [← HS.out, if_pos ⟨by simp only; omega, by simp only; omega, HTn.out, by simp only; omega⟩]
                clear HS HKM
                simp only [Nat.zero_mul, Nat.add_zero] at c1 c2
                go_wp2_with fail
                go_quiet (fail)
                have b0 : Bel wr (wr.drewN nq) := below_drewN (Below.refl _ _) _
                generalize wr.drewN nq = W1 at b0 ⊢
                go_wp2_with fail
                go_roundw
                case rel => exact ⟨1, a + (t.length : Int), by omega, by go_num, by omega, by omega, HF.out, fun h => by omega, fun m hm e => by rw [HLk.out a t rfl m hm (by omega)]; exact ⟨rfl, by simp only; omega, by simp only; omega, by simp only; omega⟩, hb.tr b0⟩
                case measure => simp [intOf]; omega
              | m + 1, _ =>
                obtain ⟨d1, d2⟩ := (HV.out.below hb hbw) m (by omega)
                have hkk := HKM.out m (by omega) rfl
                clear HKM
                generalize L[m] = v at *
                obtain ⟨a', t'⟩ := v
                have hz' : (M.bs t').size = t'.length := M.bs_size t'
                simp only at d1 d2 hkk
                obtain ⟨hfe, hk1, hk2, hk3⟩ := hkk
                subst hfe
                have p1 : ((m + 1 : Nat) : Int) - 1 = (m : Int) := by omega
                have p0 : decide ((0 : Int) < ((m + 1 : Nat) : Int)) = true := by apply decide_eq_true; omega
                by_cases h5 : a < a' + (t'.length : Int)
                · have HF : Hid (R = false) := by show _ = _; rw [← HS.out, if_neg (by simp only; omega)]
                  clear HS HTn HLk
                  go_wp2_with fail
                  go_quiet (fail)
                  have b0 : Bel wr (wr.drewN nq) := below_drewN (Below.refl _ _) _
                  generalize wr.drewN nq = W1 at b0 ⊢
                  go_wp2_with fail
                  go_ret
                  exact ⟨by rw [HF.out]; rfl, hb.tr b0⟩
                · have HF : Hid (M.rightFrom (a + (t.length : Int)) (L.drop (m + 1 + 1)) = R) := by show _ = _; rw [← HS.out, if_pos ⟨by simp only; omega, by simp only; omega, HTn.out, by simp only; omega⟩]
                  clear HS HTn
                  go_wp2_with fail
                  go_quiet (fail)
                  have b0 : Bel wr (wr.drewN nq) := below_drewN (Below.refl _ _) _
                  generalize wr.drewN nq = W1 at b0 ⊢
                  go_wp2_with fail
                  go_roundw
                  case rel => exact ⟨m + 1 + 1, a + (t.length : Int), by omega, by go_num, by omega, by omega, HF.out, fun h => by omega, fun m' hm e => by rw [HLk.out a t rfl m' hm (by omega)]; exact ⟨rfl, by simp only; omega, by simp only; omega, by simp only; omega⟩, hb.tr b0⟩
                  case measure => simp [intOf]; omega
    · have HF : Hid (R = true) := by show _ = _; rw [← hr, List.drop_of_length_le (by omega)]; rfl
      clear hr hkm hk0
      have hLi : (L.length : Int) ≤ 65535 := by omega
      go_wp2_with fail
      go_ret
      exact ⟨by rw [HF.out]; rfl, hb⟩
theorem rright_nil (a : Option Addr) (cap : Nat) (w : World) :
    Calls Try.prog 26 #[.slice a 0 cap] w fun e w' => e = .returned (.bool (M.right [])) ∧ Bel w w' := by
  go_enter Try.func26, Try.ntmps26
  go_wp2_with fail
  refine wp_loop_rounds 1 ?_
  rw [rounds_succ]
  go_wp2_with fail
  go_ret
  exact ⟨rfl, Below.refl _ _⟩
theorem rright_any (L : List M.Pc) (x : Value) (w : World) (hv : Vals w x L) (hL2 : L.length ≤ 65535) (hs : ∀ p ∈ L, p.2.length ≤ 100000) :
    Calls Try.prog 26 #[x] w fun e w' => e = .returned (.bool (M.right L)) ∧ Bel w w' := by
  obtain ⟨a, cap, rfl, hv⟩ := hv
  by_cases h0 : L = []
  · subst h0; exact rright_nil a cap w
  · obtain h | ⟨b, off, rfl, hr⟩ := hv
    · exact absurd h h0
    · refine rright_some L b off cap w hr ?_ hL2 hs
      have : L.length ≠ 0 := fun h => h0 (List.length_eq_zero_iff.1 h)
      omega
end Go.Proofs.Ytaepbmcmggnmpaa
