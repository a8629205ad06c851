/-
  The contract of the document's own Get for layer 4, walked.
-/
import Derived.Test.YtoelaemneoabfabLT
import Derived.Test.YtoelaemneoabfabQM
import Derived.Test.YtoelaemneoabfabQA
import Derived.Test.YtoelaemneoabfabQU
namespace Go.Proofs.Ytoelaemneoabfab
open Go.RowKit
set_option maxRecDepth 100000

/-- What the document's map shows: its keys and its values. -/
def ShowM (w : World) (kv vv : Value) (R : M.Rm) : Prop := ∃ a c a' c', kv = .slice a R.length c ∧ vv = .slice a' R.length c' ∧ (R = [] ∨ ∃ g off g' off', a = some ⟨g, off, none⟩ ∧ a' = some ⟨g', off', none⟩ ∧ RowT w g off (R.map (·.1)) ∧ RowN w g' off' (R.map (·.2)))
theorem ShowM.keep {X : Nat → Prop} {w w' : World} {kv vv : Value} {R : M.Rm} (h : ShowM w kv vv R) (hb : Keep X w w') (hX : ∀ a n c, (kv = .slice (some a) n c ∨ vv = .slice (some a) n c) → X a.block) : ShowM w' kv vv R := by
  obtain ⟨a, c, a', c', rfl, rfl, h | ⟨g, off, g', off', rfl, rfl, h1, h2⟩⟩ := h
  · exact ⟨a, c, a', c', rfl, rfl, .inl h⟩
  · refine ⟨_, c, _, c', rfl, rfl, .inr ⟨g, off, g', off', rfl, rfl, fun j hj => ?_, fun j hj => ?_⟩⟩
    · exact (hb.cell (p := ⟨g, off + j, none⟩) (hX ⟨g, off, none⟩ R.length c (.inl rfl))).trans (h1 j hj)
    · exact (hb.cell (p := ⟨g', off' + j, none⟩) (hX ⟨g', off', none⟩ R.length c' (.inr rfl))).trans (h2 j hj)
theorem ShowM.bel {w w' : World} {kv vv : Value} {R : M.Rm} (h : ShowM w kv vv R) (hb : Bel w w') : ShowM w' kv vv R := by
  obtain ⟨a, c, a', c', rfl, rfl, h | ⟨g, off, g', off', rfl, rfl, h1, h2⟩⟩ := h
  · exact ⟨a, c, a', c', rfl, rfl, .inl h⟩
  · exact ⟨_, c, _, c', rfl, rfl, .inr ⟨g, off, g', off', rfl, rfl, h1.bel hb, h2.bel hb⟩⟩
theorem map_get (R : M.Rm) (j : Nat) (h : j < R.length) : (R.map (·.1))[j]'(by simpa using h) = R[j].1 ∧ (R.map (·.2))[j]'(by simpa using h) = R[j].2 := by simp
theorem rget_drop (R : M.Rm) (k : M.Tk) (j : Nat) (h : j < R.length) : M.rget (R.drop j) k = if R[j].1 = k then (R[j].2, true) else M.rget (R.drop (j + 1)) k := by
  rw [List.drop_eq_getElem_cons h, M.rget]
set_option maxHeartbeats 2000000 in
theorem rgetS (R : M.Rm) (k : M.Tk) (kv vv : Value) (w : World) (hR : R.length ≤ 1000) (h : ShowM w kv vv R) :
    Calls Try.prog 8 #[.agg #[kv, vv], .string (M.bs k)] w fun e w' => e = .returned (.tuple #[.int .i64 (M.rget R k).1, .bool (M.rget R k).2]) ∧ Bel w w' := by
  have h' := h.bel (Bel.al (Below.refl _ w) (.cells #[kv, vv] 30))
  obtain ⟨a, c, a', c', rfl, rfl, hs⟩ := h
  have hs' : R = [] ∨ ∃ g off g' off', a = some ⟨g, off, none⟩ ∧ a' = some ⟨g', off', none⟩ ∧ RowT (w.alloc (.cells #[.slice a R.length c, .slice a' R.length c'] 30)) g off (R.map (·.1)) ∧ RowN (w.alloc (.cells #[.slice a R.length c, .slice a' R.length c'] 30)) g' off' (R.map (·.2)) := by
    rcases hs with hs | ⟨g, off, g', off', h1, h2, h3, h4⟩
    · exact .inl hs
    · exact .inr ⟨g, off, g', off', h1, h2, h3.bel (Bel.al (Below.refl _ w) _), h4.bel (Bel.al (Below.refl _ w) _)⟩
  clear h' hs
  have bW : Bel w (w.alloc (.cells #[.slice a R.length c, .slice a' R.length c'] 30)) := Bel.al (Below.refl _ _) _
  have g0 : (w.alloc (.cells #[.slice a R.length c, .slice a' R.length c'] 30)).heap[w.heap.size]? = some (.cells #[.slice a R.length c, .slice a' R.length c'] 30 (0, 0)) := heap_alloc_new w _
  have b0 := cell_of (i := 0) g0 rfl
  have b1 := cell_of (i := 1) g0 rfl
  clear g0
  go_enter Try.func8, Try.ntmps8
  go_wp2_with fail
  generalize w.alloc (.cells #[.slice a R.length c, .slice a' R.length c'] 30) = W0 at *
  go_loop [6] (fun i => ∃ j : Nat, j ≤ R.length ∧ i = .int .i64 j ∧ M.rget (R.drop j) k = M.rget R k) (fun i => R.length - (intOf i).toNat)
  case atStart => exact ⟨0, Nat.zero_le _, rfl, by rw [List.drop_zero]⟩
  case round =>
    obtain ⟨j, hj, rfl, hr⟩ := hrel
    by_cases hlt : j < R.length
    · rcases hs' with rfl | ⟨g, off, g', off', rfl, rfl, h3, h4⟩
      · simp at hlt
      have e1 := h3 j (by simpa using hlt)
      have e2 := h4 j (by simpa using hlt)
      rw [(map_get R j hlt).1] at e1
      rw [(map_get R j hlt).2] at e2
      have HR := hid hr
      have HD := hid (rget_drop R k j hlt)
      clear h3 h4 hr
      generalize R[j] = E at *
      obtain ⟨ek, ev⟩ := E
      simp only at e1 e2
      by_cases hk : ek = k
      · subst hk
        have HV : Hid (M.rget R ek = (ev, true)) := by show _ = _; rw [← HR.out, HD.out, if_pos rfl]
        go_wp2_with fail
        go_ret2
        exact ⟨by rw [HV.out]; rfl, bW⟩
      · have hq : ((M.bs ek).toList == (M.bs k).toList) = false := by rw [beq_eq_false_iff_ne, M.bs_toList, M.bs_toList]; exact hk
        go_wp2_with fail
        go_round
        case rel => exact ⟨j + 1, by omega, by go_num, by rw [← HR.out, HD.out, if_neg hk]⟩
        case measure => simp [intOf]; omega
    · have HV : Hid (M.rget R k = (0, false)) := by show _ = _; rw [← hr, List.drop_eq_nil_of_le (by omega)]; rfl
      clear hs' hr
      go_wp2_with fail
      go_ret2
      exact ⟨by rw [HV.out]; rfl, bW⟩
end Go.Proofs.Ytoelaemneoabfab
