/-
  Lists of the top laws' own values, as they come in.
-/
import Derived.Test.YtaepbmcmggnmpaaDoorTQ
import Derived.ProofKit
import Derived.OpenShut
import Derived.Deep.Slices
import Derived.Deep.Strs
namespace Go.Proofs.YtaepbmcmggnmpaaDoor
open Go.RowKit Go.ChangeShapes Go.WideShapes Go.ChangeAt

set_option maxRecDepth 100000
theorem cellsA62 : Tryd.prog.cellsOf 62 = 3 := by kernel_rfl
theorem cellsA9 : Tryd.prog.cellsOf 9 = 1 := by kernel_rfl
theorem cellsA3 : Tryd.prog.cellsOf 3 = 1 := by kernel_rfl
theorem cellsA4 : Tryd.prog.cellsOf 4 = 1 := by kernel_rfl
instance : Inhabited TV := ⟨([], 0, false)⟩
theorem add_litV (g o i : Nat) : (⟨g, o, none⟩ : Addr).add i = ⟨g, o + i, none⟩ := by unfold Addr.add; split <;> simp_all
theorem open_tvs {H : Type} {enc : TypeId × Value → H} {W : World} {base : Nat} {r : Reach} {v : Value} {d : DataW H} {p : List MemPlace} (hv : Value.okWide Tryd.prog W r base 57 v)
    (h : DataW.Trod enc Tryd.prog W 0 (fun _ => true) true 57 v d p) : ∃ (L : List TV) (a : Option Addr) (cap : Nat), v = .slice a L.length cap ∧ L.length ≤ maxLen ∧ ((L = [] ∨ ∃ g off, a = some ⟨g, off, none⟩ ∧ RowV W g off L) ∧ ∀ t ∈ L, t.1.length ≤ maxLen) := by
  obtain ⟨a, len, cap, rfl⟩ := okWide_slice Tryd.underlying57 hv
  obtain ⟨fuel, hf⟩ := h
  rcases Deep.open_slice Tryd.underlying57 hf with ⟨hcs, _⟩ | ⟨a', len', cap', m, n, D, Pl, hcs, _, hl, hm, hmm, _, hx⟩
  · have e : (Value.slice a len cap).cells.toList = [.slice a len cap] := rfl
    rw [e] at hcs
    obtain ⟨h1, h2, h3⟩ := Value.slice.inj (List.cons.inj hcs).1
    subst h1 h2 h3
    exact ⟨[], none, 0, rfl, by simp, .inl rfl, by simp⟩
  · have e : (Value.slice a len cap).cells.toList = [.slice a len cap] := rfl
    rw [e] at hcs
    obtain ⟨h1, h2, h3⟩ := Value.slice.inj (List.cons.inj hcs).1
    subst h1 h2 h3
    rw [cellsA62] at hx
    have hlm : len ≤ m := by rw [hmm]; simpa using hl
    have key : ∀ i, i < len → ∃ x : TV, (W.cell? (a'.add (i * 3)) = some (.string (M.bs x.1)) ∧ W.cell? (a'.add (i * 3 + 1)) = some (.int .i64 x.2.1) ∧ W.cell? (a'.add (i * 3 + 2)) = some (.bool x.2.2)) ∧ x.1.length ≤ maxLen := by
      intro i hi
      obtain ⟨cs', hc, ht⟩ := hx i (by omega)
      obtain ⟨_, hl3, hcell⟩ := World.cells?_some hc
      obtain ⟨y0, y1, y2, k, _, _, t0, t1, t2⟩ := Deep.trod_struct3 Tryd.underlying62 ht
      obtain ⟨s, e0, _, hs⟩ := DataW.trod_string Tryd.underlying9 t0
      obtain ⟨z, e1, _, _⟩ := DataW.trod_int Tryd.underlying3 t1
      obtain ⟨z2, e2, _⟩ := DataW.trod_bool Tryd.underlying4 t2
      obtain ⟨c0, c1, c2, rfl⟩ : ∃ c0 c1 c2, cs' = [c0, c1, c2] := by
        match cs', hl3 with
        | [c0, c1, c2], _ => exact ⟨c0, c1, c2, rfl⟩
      simp only [cellsA9, cellsA3, cellsA4, List.drop_zero, List.drop_succ_cons, List.take_succ_cons, List.take_zero, List.cons.injEq, and_true] at e0 e1 e2
      subst e0 e1 e2
      refine ⟨(s.data.toList, z, z2), ⟨?_, ?_, ?_⟩, ?_⟩
      · have := hcell 0 (by omega)
        rw [Deep.add_add] at this
        rw [M.bs_of]; exact this
      · have := hcell 1 (by omega)
        rw [Deep.add_add] at this
        exact this
      · have := hcell 2 (by omega)
        rw [Deep.add_add] at this
        exact this
      · exact hs
    obtain ⟨V, hV⟩ := Deep.choose_lt key
    refine ⟨(List.range len).map V, some a', cap, by simp, by rw [List.length_map, List.length_range]; omega, ?_, ?_⟩
    · by_cases h0 : len = 0
      · left; subst h0; rfl
      · right
        obtain ⟨b, off, spot⟩ := a'
        have hspot : spot = none := by simpa [Addr.add] using World.cell?_spot (hV 0 (by omega)).1.1
        subst hspot
        refine ⟨b, off, rfl, fun j hj => ?_⟩
        have hj' : j < len := by simpa using hj
        obtain ⟨⟨k0, k1, k2⟩, _⟩ := hV j hj'
        rw [add_litV] at k0 k1 k2
        simp only [List.getElem_map, List.getElem_range]
        exact ⟨k0, by rw [Nat.add_assoc]; exact k1, by rw [Nat.add_assoc]; exact k2⟩
    · intro t ht
      obtain ⟨i, hi, rfl⟩ := List.mem_map.1 ht
      exact (hV i (List.mem_range.1 hi)).2
end Go.Proofs.YtaepbmcmggnmpaaDoor
