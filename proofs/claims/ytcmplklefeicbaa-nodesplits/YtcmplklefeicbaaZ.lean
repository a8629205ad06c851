/-
  Lists of the law's own entries, as they come in.
-/
import Derived.Test.YtcmplklefeicbaaY
import Derived.Deep.Slices
import Derived.Deep.Strs
import Derived.OpenShut
import Derived.ProofKit
namespace Go.Proofs.Ytcmplklefeicbaa
open Go.RowKit Go.ChangeShapes Go.WideShapes Go.ChangeAt
set_option maxRecDepth 100000

theorem cellsE26 : Try.prog.cellsOf 26 = 3 := by kernel_rfl
theorem cellsE9 : Try.prog.cellsOf 9 = 1 := by kernel_rfl
theorem cellsE4 : Try.prog.cellsOf 4 = 1 := by kernel_rfl
theorem addL (g o i : Nat) : (⟨g, o, none⟩ : Addr).add i = ⟨g, o + i, none⟩ := by unfold Addr.add; split <;> simp_all
section
variable {H : Type} {enc : TypeId × Value → H} {W : World}
theorem open_el {fuel : Nat} {v : Value} {x : DataW H × List MemPlace} (h : DataW.trod enc Try.prog W 0 (fun _ => true) true fuel 22 [v] = some x) :
    ∃ L : List M.En, Vals W v L ∧ L.length ≤ maxLen ∧ ∀ e ∈ L, e.1.length ≤ maxLen ∧ e.2.1.length ≤ maxLen := by
  rcases Deep.open_slice Try.underlying22 h with ⟨hcs, _⟩ | ⟨a', len', cap', m, n, D, Pl, hcs, _, hl, hm, hmm, _, hx⟩
  · obtain rfl := (List.cons.inj hcs).1
    exact ⟨[], ⟨none, 0, rfl, .inl rfl⟩, by simp, by simp⟩
  · obtain rfl := (List.cons.inj hcs).1
    rw [cellsE26] at hx
    have hlm : len' ≤ m := by rw [hmm]; simpa using hl
    have key : ∀ i, i < len' → ∃ x : M.En, (W.cell? (a'.add (i * 3)) = some (.string (M.bs x.1)) ∧ W.cell? (a'.add (i * 3 + 1)) = some (.string (M.bs x.2.1)) ∧ W.cell? (a'.add (i * 3 + 2)) = some (.bool x.2.2)) ∧ x.1.length ≤ maxLen ∧ x.2.1.length ≤ maxLen := by
      intro i hi
      obtain ⟨cs', hc, ht⟩ := hx i (by omega)
      obtain ⟨_, hl3, hcell⟩ := World.cells?_some hc
      obtain ⟨y0, y1, y2, k, _, _, t0, t1, t2⟩ := Deep.trod_struct3 Try.underlying26 ht
      obtain ⟨s, e0, _, hs⟩ := DataW.trod_string Try.underlying9 t0
      obtain ⟨s', e1, _, hs'⟩ := DataW.trod_string Try.underlying9 t1
      obtain ⟨b, e2, _⟩ := DataW.trod_bool Try.underlying4 t2
      obtain ⟨c0, c1, c2, rfl⟩ : ∃ c0 c1 c2, cs' = [c0, c1, c2] := by
        match cs', hl3 with
        | [c0, c1, c2], _ => exact ⟨c0, c1, c2, rfl⟩
      simp only [cellsE9, cellsE4, List.drop_zero, List.drop_succ_cons, List.take_succ_cons, List.take_zero, List.cons.injEq, and_true] at e0 e1 e2
      subst e0 e1 e2
      refine ⟨(s.data.toList, s'.data.toList, b), ⟨?_, ?_, ?_⟩, ?_, ?_⟩
      · have := hcell 0 (by omega)
        rw [Deep.add_add] at this
        rw [M.bs_of]; exact this
      · have := hcell 1 (by omega)
        rw [Deep.add_add] at this
        rw [M.bs_of]; exact this
      · have := hcell 2 (by omega)
        rw [Deep.add_add] at this
        exact this
      · rw [← Lib.size_eq]; exact hs
      · rw [← Lib.size_eq]; exact hs'
    obtain ⟨V, hV⟩ := Deep.choose_lt key
    refine ⟨(List.range len').map V, ⟨some a', cap', by simp, ?_⟩, by rw [List.length_map, List.length_range]; omega, ?_⟩
    · by_cases h0 : len' = 0
      · left; subst h0; rfl
      · right
        obtain ⟨b, off, spot⟩ := a'
        have hspot : spot = none := by simpa [Addr.add] using World.cell?_spot (hV 0 (by omega)).1.1
        subst hspot
        refine ⟨b, off, rfl, fun j hj => ?_⟩
        have hj' : j < len' := by simpa using hj
        obtain ⟨⟨k0, k1, k2⟩, _⟩ := hV j hj'
        rw [addL] at k0 k1 k2
        simp only [List.getElem_map, List.getElem_range]
        exact ⟨k0, by rw [Nat.add_assoc]; exact k1, by rw [Nat.add_assoc]; exact k2⟩
    · intro q hq
      simp only [List.mem_map, List.mem_range] at hq
      obtain ⟨i, hi, rfl⟩ := hq
      exact (hV i hi).2
end
theorem open_entries {H : Type} {enc : TypeId × Value → H} {W : World} {base : Nat} {r : Reach} {v : Value} {d : DataW H} {p : List MemPlace} (hv : Value.okWide Try.prog W r base 22 v)
    (h : DataW.Trod enc Try.prog W 0 (fun _ => true) true 22 v d p) : ∃ (L : List M.En) (a : Option Addr) (cap : Nat), v = .slice a L.length cap ∧ L.length ≤ maxLen ∧ (Vals W (.slice a L.length cap) L ∧ ∀ e ∈ L, e.1.length ≤ maxLen ∧ e.2.1.length ≤ maxLen) := by
  obtain ⟨a, len, cap, rfl⟩ := okWide_slice Try.underlying22 hv
  obtain ⟨fuel, hf⟩ := h
  have e : (Value.slice a len cap).cells.toList = [.slice a len cap] := rfl
  rw [e] at hf
  obtain ⟨L, hV, hl, hs⟩ := open_el hf
  obtain ⟨a', cap', hx, hV'⟩ := id hV
  rw [hx] at hV
  exact ⟨L, a', cap', hx, hl, hV, hs⟩
end Go.Proofs.Ytcmplklefeicbaa
