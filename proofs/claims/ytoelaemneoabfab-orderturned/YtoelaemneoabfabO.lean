/-
  Lists of numbers and of texts, as they come in.
-/
import Derived.Test.YtoelaemneoabfabV
import Derived.ProofKit
import Derived.OpenShut
import Derived.SliceStrings
import Derived.Deep.Slices
import Derived.Deep.Strs
namespace Go.Proofs.Ytoelaemneoabfab
open Go.RowKit Go.ChangeShapes Go.WideShapes Go.ChangeAt

theorem open_nums {H : Type} {enc : TypeId × Value → H} {W : World} {base : Nat} {r : Reach} {v : Value} {d : DataW H} {p : List MemPlace} (hv : Value.okWide Try.prog W r base 28 v)
    (h : DataW.Trod enc Try.prog W 0 (fun _ => true) true 28 v d p) : ∃ (L : List Int) (a : Option Addr) (cap : Nat), v = .slice a L.length cap ∧ L.length ≤ maxLen ∧ (L = [] ∨ ∃ g off, a = some ⟨g, off, none⟩ ∧ RowN W g off L) := by
  obtain ⟨a, len, cap, rfl⟩ := okWide_slice Try.underlying28 hv
  obtain ⟨fuel, hf⟩ := h
  rcases open_ints Try.underlying28 Try.underlying3 (by kernel_rfl) hf with ⟨hcs, _⟩ | ⟨a', len', cap', zs, hcs, _, hl, hm, hz, _, hc, _⟩
  · have e : (Value.slice a len cap).cells.toList = [.slice a len cap] := rfl
    rw [e] at hcs
    obtain ⟨h1, h2, h3⟩ := Value.slice.inj (List.cons.inj hcs).1
    subst h1 h2 h3
    exact ⟨[], none, 0, rfl, by simp, .inl rfl⟩
  · have e : (Value.slice a len cap).cells.toList = [.slice a len cap] := rfl
    rw [e] at hcs
    obtain ⟨h1, h2, h3⟩ := Value.slice.inj (List.cons.inj hcs).1
    subst h1 h2 h3
    have hlz : len ≤ zs.length := by rw [hz]; simpa using hl
    have hlen : (zs.take len).length = len := by rw [List.length_take]; omega
    refine ⟨zs.take len, some a', cap, by rw [hlen], by rw [hlen]; omega, ?_⟩
    by_cases h0 : len = 0
    · left; rw [h0]; rfl
    · right
      obtain ⟨b, off, spot⟩ := a'
      have hspot : spot = none := by simpa [Addr.add] using World.cell?_spot (hc 0 (by omega))
      subst hspot
      refine ⟨b, off, rfl, fun j hj => ?_⟩
      have hj' : j < len := by rw [hlen] at hj; exact hj
      have := hc j (by omega)
      rw [add_lit] at this
      rw [this, List.getElem_take]
      simp [List.getD_eq_getElem?_getD, List.getElem?_eq_getElem (show j < zs.length by omega)]
end Go.Proofs.Ytoelaemneoabfab
