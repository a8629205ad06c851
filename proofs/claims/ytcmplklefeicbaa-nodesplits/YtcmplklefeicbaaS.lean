/-
  The contract of node's half, walked.
-/
import Derived.Test.YtcmplklefeicbaaV
import Derived.Lib.MinMax
namespace Go.Proofs.Ytcmplklefeicbaa
open Go.RowKit
set_option maxRecDepth 100000

theorem szs_take_le (es : List M.En) (h2 : es.length ≤ 1000) (h3 : ∀ e ∈ es, e.1.length ≤ 1000 ∧ e.2.1.length ≤ 1000) (k : Nat) : M.szs (es.take k) ≤ 2003000 := by
  have := szs_le (es.take k) (fun e he => h3 e (List.mem_of_mem_take he))
  rw [List.length_take] at this
  have : min k es.length * 2003 ≤ 1000 * 2003 := Nat.mul_le_mul_right _ (by omega)
  omega
theorem szs_split (es : List M.En) (k : Nat) : M.szs es = M.szs (es.take k) + M.szs (es.drop k) := by
  rw [← M.szs_append, List.take_append_drop]
set_option maxHeartbeats 2000000 in
theorem half_any (es : List M.En) (b off cap : Nat) (w : World) (h2 : es.length ≤ 1000) (h3 : ∀ e ∈ es, e.1.length ≤ 1000 ∧ e.2.1.length ≤ 1000) (hr : Row3 w b off es) (hb : b < w.heap.size) (hL : 0 < es.length) :
    Calls Try.prog 33 #[.slice (some ⟨b, off, none⟩) es.length cap] w fun e w' => ∃ m : Nat, m ≤ es.length ∧ (∀ j, j < m → M.szs (es.take j) < M.szs (es.drop j)) ∧ M.szs (es.drop m) ≤ M.szs (es.take m) ∧ e = .returned (.int .i64 ((min m (es.length - 1) : Nat) : Int)) ∧ Bel w w' := by
  have hsz := szs_take_le es h2 h3
  have hszA := hsz es.length
  rw [List.take_length] at hszA
  go_enter Try.func33, Try.ntmps33
  go_wp2_with fail
  go_loopw [5, 10] (fun sv i wr => ∃ k : Nat, k ≤ es.length ∧ i = .int .i64 k ∧ sv = .int .i64 (M.szs (es.take k) : Int) ∧ Bel w wr) (fun _ i _ => es.length - (intOf i).toNat)
  case atStart => exact ⟨0, Nat.zero_le _, rfl, by simp [M.szs], Below.refl _ _⟩
  case round =>
    obtain ⟨k, hk, rfl, rfl, hbl⟩ := hrel
    by_cases hlt : k < es.length
    · obtain ⟨c1, c2, c3⟩ := (hr.below hbl hb) k hlt
      have he := h3 es[k] (List.getElem_mem hlt)
      have HT : Hid (M.szs (es.take (k + 1)) = M.szs (es.take k) + M.szE es[k]) := by show _ = _; rw [List.take_succ_eq_append_getElem hlt, M.szs_snoc]
      have hszk := hsz k
      have hkl : (k : Int) < (es.length : Int) := by omega
      have HH3 := hid h3
      have HSZ := hid hsz
      clear hr h3 hsz
      generalize es[k] = v at *
      obtain ⟨kk, vv, mm⟩ := v
      simp only at he c1 c2 c3
      have hze : M.szE (kk, vv, mm) ≤ 2003 := by simp only [M.szE]; omega
      have H := fun W => size_any kk vv mm W (by omega) (by omega)
      generalize M.szs (es.take k) = S at *
      generalize M.szE (kk, vv, mm) = Z at *
      go_wp2_with fail
      refine (H _).mono ?_
      rintro e w1 ⟨rfl, b1⟩
      go_wp2_with fail
      go_roundw
      case rel => exact ⟨k + 1, by omega, by go_num, by rw [HT.out]; go_num, (hbl.al _).tr b1⟩
      case measure => simp [intOf]; omega
    · have HF : Hid (M.szs (es.take k) = M.szs es) := by show _ = _; rw [List.take_of_length_le (by omega)]
      have hkl : ¬ (k : Int) < (es.length : Int) := by omega
      rw [HF.out]
      clear HF
      go_wp2_with fail
      go_loopw [3, 4, 5] (fun av fv rv wr => ∃ m : Nat, m ≤ es.length ∧ av = .int .i64 m ∧ fv = .int .i64 (M.szs (es.take m) : Int) ∧ rv = .int .i64 (M.szs (es.drop m) : Int) ∧ (∀ j, j < m → M.szs (es.take j) < M.szs (es.drop j)) ∧ Bel w wr) (fun av _ _ _ => es.length - (intOf av).toNat)
      case atStart => exact ⟨0, Nat.zero_le _, rfl, by simp [M.szs], by simp, fun j hj => absurd hj (by omega), hbl⟩
      case round =>
        obtain ⟨m, hm, rfl, rfl, rfl, hall, hbm⟩ := hrel
        have hszk := hsz m
        have hsp := szs_split es m
        by_cases hgo : M.szs (es.take m) < M.szs (es.drop m)
        · have hlt : m < es.length := by
            rcases Nat.lt_or_ge m es.length with h | h
            · exact h
            · rw [List.drop_eq_nil_of_le h] at hgo; simp [M.szs] at hgo
          obtain ⟨c1, c2, c3⟩ := (hr.below hbm hb) m hlt
          have he := h3 es[m] (List.getElem_mem hlt)
          have HT : Hid (M.szs (es.take (m + 1)) = M.szs (es.take m) + M.szE es[m]) := by show _ = _; rw [List.take_succ_eq_append_getElem hlt, M.szs_snoc]
          have HD : Hid (M.szs (es.drop m) = M.szE es[m] + M.szs (es.drop (m + 1))) := by show _ = _; rw [List.drop_eq_getElem_cons hlt]; rfl
          have HALL := hid hall
          have hml : (m : Int) < (es.length : Int) := by omega
          have hdz : M.szE es[m] ≤ M.szs (es.drop m) := by rw [HD.out]; omega
          have Hb := hbm
          have hTb : M.szs (es.drop m) ≤ 2003000 := by omega
          clear hall
          have HR2 : Hid (∀ W, Bel w W → Row3 W b off es) := fun W hW => hr.below hW hb
          have HH3 := hid h3
          have HSZ := hid hsz
          clear hr h3 hsz
          have hgo' : (M.szs (es.take m) : Int) < (M.szs (es.drop m) : Int) := by omega
          have HCELL : Hid (∀ W, Bel w W → W.cell? ⟨b, off + m * 3, none⟩ = some (.string (M.bs es[m].1)) ∧ W.cell? ⟨b, off + m * 3 + 1, none⟩ = some (.string (M.bs es[m].2.1)) ∧ W.cell? ⟨b, off + m * 3 + 2, none⟩ = some (.bool es[m].2.2)) := fun W hW => HR2.out W hW m hlt
          generalize es[m] = v at *
          obtain ⟨kk, vv, mm⟩ := v
          simp only at he c1 c2 c3
          have hze : M.szE (kk, vv, mm) ≤ 2003 := by simp only [M.szE]; omega
          have H := fun W => size_any kk vv mm W (by omega) (by omega)
          have HSP := hid hsp
          have HALL2 : Hid (∀ j, j < m + 1 → M.szs (es.take j) < M.szs (es.drop j)) := fun j hj => by
            by_cases hjm : j = m
            · rw [hjm]; exact hgo
            · exact HALL.out j (by omega)
          clear hsp hgo
          generalize M.szs (es.take m) = S at *
          generalize M.szs (es.drop m) = T at *
          generalize M.szE (kk, vv, mm) = Z at *
          go_wp2_with fail
          refine (H _).mono ?_
          rintro e w1 ⟨rfl, b1⟩
          have hb1 := Hb.tr b1
          obtain ⟨d1, d2, d3⟩ := HCELL.out w1 hb1
          clear c1 c2 c3
          go_wp2_with fail
          refine (H _).mono ?_
          rintro e w2 ⟨rfl, b2⟩
          have hb2 := hb1.tr b2
          clear d1 d2 d3
          go_wp2_with fail
          go_roundw
          case rel => exact ⟨m + 1, by omega, by go_num, by rw [HT.out]; go_num, by have := HD.out; congr 1; omega, HALL2, hb2⟩
          case measure => simp [intOf]; omega
        · have hgo' : ¬ (M.szs (es.take m) : Int) < (M.szs (es.drop m) : Int) := by omega
          have HALL := hid hall
          have HR : Hid (M.szs (es.drop m) ≤ M.szs (es.take m)) := by show _ ≤ _; omega
          clear hall hr h3 hsz hsp
          go_wp2_with fail
          go_ret
          refine ⟨m, hm, HALL.out, HR.out, ?_, hbm⟩
          have : min (m : Int) ((es.length : Int) - 1) = ((min m (es.length - 1) : Nat) : Int) := by omega
          rw [← this]; rfl
end Go.Proofs.Ytcmplklefeicbaa
