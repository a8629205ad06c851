/-
  Lists of texts, as they come in.
-/
import Derived.Test.YtoelaemneoabfabO
import Derived.Test.YtoelaemneoabfabLT
namespace Go.Proofs.Ytoelaemneoabfab
open Go.RowKit Go.ChangeShapes Go.WideShapes Go.ChangeAt

theorem open_texts {H : Type} {enc : TypeId × Value → H} {W : World} {base : Nat} {r : Reach} {v : Value} {d : DataW H} {p : List MemPlace} (hv : Value.okWide Try.prog W r base 27 v)
    (h : DataW.Trod enc Try.prog W 0 (fun _ => true) true 27 v d p) : ∃ (L : List Tx) (a : Option Addr) (cap : Nat), v = .slice a L.length cap ∧ L.length ≤ maxLen ∧ ((L = [] ∨ ∃ g off, a = some ⟨g, off, none⟩ ∧ RowT W g off L) ∧ ∀ t ∈ L, t.length ≤ maxLen) := by
  obtain ⟨a, len, cap, rfl⟩ := okWide_slice Try.underlying27 hv
  obtain ⟨fuel, hf⟩ := h
  rcases open_strings Try.underlying27 Try.underlying9 (by kernel_rfl) hf with ⟨hcs, _⟩ | ⟨a', len', cap', ss, hcs, _, hl, hm, hz, _, hc, hsz⟩
  · have e : (Value.slice a len cap).cells.toList = [.slice a len cap] := rfl
    rw [e] at hcs
    obtain ⟨h1, h2, h3⟩ := Value.slice.inj (List.cons.inj hcs).1
    subst h1 h2 h3
    exact ⟨[], none, 0, rfl, by simp, .inl rfl, by simp⟩
  · have e : (Value.slice a len cap).cells.toList = [.slice a len cap] := rfl
    rw [e] at hcs
    obtain ⟨h1, h2, h3⟩ := Value.slice.inj (List.cons.inj hcs).1
    subst h1 h2 h3
    have hlz : len ≤ ss.length := by rw [hz]; simpa using hl
    have hlen : ((ss.take len).map fun s => s.data.toList).length = len := by rw [List.length_map, List.length_take]; omega
    refine ⟨(ss.take len).map fun s => s.data.toList, some a', cap, by rw [hlen], by rw [hlen]; omega, ?_, ?_⟩
    · by_cases h0 : len = 0
      · left; rw [h0]; rfl
      · right
        obtain ⟨b, off, spot⟩ := a'
        have hspot : spot = none := by simpa [Addr.add] using World.cell?_spot (hc 0 (by omega))
        subst hspot
        refine ⟨b, off, rfl, fun j hj => ?_⟩
        have hj' : j < len := by rw [hlen] at hj; exact hj
        have := hc j (by omega)
        rw [add_lit] at this
        rw [this, List.getElem_map, List.getElem_take, M.bs_of]
        simp [List.getD_eq_getElem?_getD, List.getElem?_eq_getElem (show j < ss.length by omega)]
    · intro t ht
      obtain ⟨s, hs, rfl⟩ := List.mem_map.1 ht
      have := hsz s (List.mem_of_mem_take hs)
      rw [Lib.size_eq] at this
      exact this
end Go.Proofs.Ytoelaemneoabfab
