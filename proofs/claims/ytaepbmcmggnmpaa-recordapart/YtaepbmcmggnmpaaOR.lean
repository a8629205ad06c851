/-
  A record as it comes in: its numbers, its text, its pages.
-/
import Derived.Test.YtaepbmcmggnmpaaPA
import Derived.Deep.Slices
import Derived.Deep.SlicePairs
import Derived.OpenShut
import Derived.ProofKit
namespace Go.Proofs.Ytaepbmcmggnmpaa
open Go.RowKit Go.ChangeShapes Go.WideShapes Go.ChangeAt
set_option maxRecDepth 100000

theorem cell65 : Try.prog.cellsOf 65 = 2 := by kernel_rfl
theorem cell57 : Try.prog.cellsOf 57 = 2 := by kernel_rfl
theorem cell55 : Try.prog.cellsOf 55 = 1 := by kernel_rfl
theorem cell23 : Try.prog.cellsOf 23 = 1 := by kernel_rfl
theorem cell22 : Try.prog.cellsOf 22 = 4 := by kernel_rfl
theorem cell25 : Try.prog.cellsOf 25 = 6 := by kernel_rfl
theorem cell9 : Try.prog.cellsOf 9 = 1 := by kernel_rfl
theorem cell3 : Try.prog.cellsOf 3 = 1 := by kernel_rfl
theorem addL (g o i : Nat) : (⟨g, o, none⟩ : Addr).add i = ⟨g, o + i, none⟩ := by unfold Addr.add; split <;> simp_all
section
variable {H : Type} {enc : TypeId × Value → H} {W : World}
theorem open_pl {fuel : Nat} {v : Value} {x : DataW H × List MemPlace} (h : DataW.trod enc Try.prog W 0 (fun _ => true) true fuel 55 [v] = some x) :
    ∃ L : List M.Pc, Vals W v L ∧ L.length ≤ maxLen ∧ ∀ p ∈ L, p.2.length ≤ maxLen := by
  rcases Deep.open_slice_pairs Try.underlying55 Try.underlying65 cell65 rfl rfl cell3 cell9 h with ⟨hcs, _⟩ | ⟨a, len, cap, m, n, V0, V1, D0, D1, P0, P1, hcs, _, hl, hm, hmm, _, hx⟩
  · obtain rfl := (List.cons.inj hcs).1
    exact ⟨[], Vals.nil W, by simp, by simp⟩
  · obtain rfl := (List.cons.inj hcs).1
    have hlm : len ≤ m := by rw [hmm]; simpa using hl
    have key : ∀ i, i < len → ∃ q : M.Pc, (W.cell? (a.add (i * 2)) = some (.int .i64 q.1) ∧ W.cell? (a.add (i * 2 + 1)) = some (.string (M.bs q.2))) ∧ q.2.length ≤ maxLen := by
      intro i hi
      obtain ⟨h0, h1, t0, t1⟩ := hx i (by omega)
      obtain ⟨z, e0, _, hz⟩ := DataW.trod_int Try.underlying3 t0
      obtain ⟨s, e1, _, hs⟩ := DataW.trod_string Try.underlying9 t1
      have e0' := (List.cons.inj e0).1
      have e1' := (List.cons.inj e1).1
      refine ⟨(z, s.data.toList), ⟨by rw [h0, e0'], by rw [h1, e1', M.bs_of]⟩, ?_⟩
      rw [← Lib.size_eq]; exact hs
    obtain ⟨V, hV⟩ := Deep.choose_lt key
    refine ⟨(List.range len).map V, ⟨some a, cap, by simp, ?_⟩, by rw [List.length_map, List.length_range]; omega, ?_⟩
    · by_cases h0 : len = 0
      · left; subst h0; rfl
      · right
        obtain ⟨b, off, spot⟩ := a
        have hspot : spot = none := by simpa [Addr.add] using World.cell?_spot (hV 0 (by omega)).1.1
        subst hspot
        refine ⟨b, off, rfl, fun j hj => ?_⟩
        have hj' : j < len := by simpa using hj
        obtain ⟨⟨k0, k1⟩, _⟩ := hV j hj'
        rw [addL] at k0 k1
        simp only [List.getElem_map, List.getElem_range]
        exact ⟨k0, by rw [Nat.add_assoc]; exact k1⟩
    · intro q hq
      simp only [List.mem_map, List.mem_range] at hq
      obtain ⟨i, hi, rfl⟩ := hq
      exact (hV i hi).2
theorem open_cl {fuel : Nat} {v : Value} {x : DataW H × List MemPlace} (h : DataW.trod enc Try.prog W 0 (fun _ => true) true fuel 23 [v] = some x) :
    ∃ L : List M.Ch, ValC W v L ∧ L.length ≤ maxLen ∧ ∀ c ∈ L, c.2.length ≤ maxLen ∧ ∀ p ∈ c.2, p.2.length ≤ maxLen := by
  rcases Deep.open_slice_pairs Try.underlying23 Try.underlying57 cell57 rfl rfl cell3 cell55 h with ⟨hcs, _⟩ | ⟨a, len, cap, m, n, V0, V1, D0, D1, P0, P1, hcs, _, hl, hm, hmm, _, hx⟩
  · obtain rfl := (List.cons.inj hcs).1
    exact ⟨[], ⟨none, 0, rfl, .inl rfl⟩, by simp, by simp⟩
  · obtain rfl := (List.cons.inj hcs).1
    have hlm : len ≤ m := by rw [hmm]; simpa using hl
    have key : ∀ i, i < len → ∃ q : M.Ch × Value, (W.cell? (a.add (i * 2)) = some (.int .i64 q.1.1) ∧ W.cell? (a.add (i * 2 + 1)) = some q.2 ∧ Vals W q.2 q.1.2) ∧ q.1.2.length ≤ maxLen ∧ ∀ p ∈ q.1.2, p.2.length ≤ maxLen := by
      intro i hi
      obtain ⟨h0, h1, t0, t1⟩ := hx i (by omega)
      obtain ⟨z, e0, _, hz⟩ := DataW.trod_int Try.underlying3 t0
      obtain ⟨K, k1, k2, k3⟩ := open_pl t1
      have e0' := (List.cons.inj e0).1
      exact ⟨((z, K), V1 i), ⟨by rw [h0, e0'], h1, k1⟩, k2, k3⟩
    obtain ⟨V, hV⟩ := Deep.choose_lt key
    refine ⟨(List.range len).map fun i => (V i).1, ⟨some a, cap, by simp, ?_⟩, by rw [List.length_map, List.length_range]; omega, ?_⟩
    · by_cases h0 : len = 0
      · left; subst h0; rfl
      · right
        obtain ⟨b, off, spot⟩ := a
        have hspot : spot = none := by simpa [Addr.add] using World.cell?_spot (hV 0 (by omega)).1.1
        subst hspot
        refine ⟨b, off, rfl, fun j hj => ?_⟩
        have hj' : j < len := by simpa using hj
        obtain ⟨⟨k0, k1, k2⟩, _⟩ := hV j hj'
        rw [addL] at k0 k1
        simp only [List.getElem_map, List.getElem_range]
        exact ⟨(V j).2, k0, by rw [Nat.add_assoc]; exact k1, k2⟩
    · intro q hq
      simp only [List.mem_map, List.mem_range] at hq
      obtain ⟨i, hi, rfl⟩ := hq
      exact (hV i hi).2
theorem six_of {l : List Value} (h : l.length = 6) : ∃ a b c d e f, l = [a, b, c, d, e, f] := by
  rcases l with _ | ⟨a, _ | ⟨b, _ | ⟨c, _ | ⟨d, _ | ⟨e, _ | ⟨f, _ | ⟨g, r⟩⟩⟩⟩⟩⟩⟩ <;> first | (simp at h; done) | exact ⟨a, b, c, d, e, f, rfl⟩
theorem open_raw {base : Nat} {r : Reach} {v : Value} {d : DataW H} {p : List MemPlace} (hv : Value.okWide Try.prog W r base 25 v)
    (h : DataW.Trod enc Try.prog W 0 (fun _ => true) true 25 v d p) : ∃ (n0 n1 n2 n3 : Int) (undo : List UInt8) (L : List M.Ch) (a0 : Option Addr) (cap : Nat),
      v = .agg #[.int .i64 n0, .int .i64 n1, .int .i64 n2, .int .i64 n3, .string (M.bs undo), .slice a0 L.length cap] ∧ ValC W (.slice a0 L.length cap) L ∧ L.length ≤ maxLen ∧ undo.length ≤ maxLen ∧ ∀ c ∈ L, c.2.length ≤ maxLen ∧ ∀ p ∈ c.2, p.2.length ≤ maxLen := by
  obtain ⟨cs, rfl, hcs⟩ := okWide_struct Try.underlying25 hv
  obtain ⟨fuel, hf⟩ := h
  have e : (Value.agg cs).cells.toList = cs.toList := rfl
  rw [e] at hf
  obtain ⟨xs, n, _, _, hl, hxl, hel⟩ := DataW.trod_struct Try.underlying25 hf
  rw [cell25] at hl
  obtain ⟨c0, c1, c2, c3, c4, c5, hc⟩ := six_of hl
  have hxl : xs.length = 3 := hxl
  have t0 := hel 0 _ rfl
  have t1 := hel 1 _ rfl
  have t2 := hel 2 _ rfl
  rw [List.getElem?_eq_getElem (by omega)] at t0 t1 t2
  rw [hc] at t0 t1 t2
  have t0 : DataW.trod enc Try.prog W 0 (fun _ => true) true n 22 ([c0, c1, c2, c3, c4, c5].drop 0 |>.take (Try.prog.cellsOf 22)) = some _ := t0
  have t1 : DataW.trod enc Try.prog W 0 (fun _ => true) true n 9 ([c0, c1, c2, c3, c4, c5].drop 4 |>.take (Try.prog.cellsOf 9)) = some _ := t1
  have t2 : DataW.trod enc Try.prog W 0 (fun _ => true) true n 23 ([c0, c1, c2, c3, c4, c5].drop 5 |>.take (Try.prog.cellsOf 23)) = some _ := t2
  rw [cell22] at t0
  rw [cell9] at t1
  rw [cell23] at t2
  have t0 : DataW.trod enc Try.prog W 0 (fun _ => true) true n 22 [c0, c1, c2, c3] = some _ := t0
  have t1 : DataW.trod enc Try.prog W 0 (fun _ => true) true n 9 [c4] = some _ := t1
  have t2 : DataW.trod enc Try.prog W 0 (fun _ => true) true n 23 [c5] = some _ := t2
  obtain ⟨ys, m, _, _, _, hyl, hy⟩ := DataW.trod_array Try.underlying22 t0
  have y0 := hy 0 (by omega)
  have y1 := hy 1 (by omega)
  have y2 := hy 2 (by omega)
  have y3 := hy 3 (by omega)
  rw [cell3, List.getElem?_eq_getElem (by omega)] at y0 y1 y2 y3
  have y0 : DataW.trod enc Try.prog W 0 (fun _ => true) true m 3 [c0] = some _ := y0
  have y1 : DataW.trod enc Try.prog W 0 (fun _ => true) true m 3 [c1] = some _ := y1
  have y2 : DataW.trod enc Try.prog W 0 (fun _ => true) true m 3 [c2] = some _ := y2
  have y3 : DataW.trod enc Try.prog W 0 (fun _ => true) true m 3 [c3] = some _ := y3
  obtain ⟨n0, e0, _, _⟩ := DataW.trod_int Try.underlying3 y0
  obtain ⟨n1, e1, _, _⟩ := DataW.trod_int Try.underlying3 y1
  obtain ⟨n2, e2, _, _⟩ := DataW.trod_int Try.underlying3 y2
  obtain ⟨n3, e3, _, _⟩ := DataW.trod_int Try.underlying3 y3
  obtain ⟨s, e4, _, hs⟩ := DataW.trod_string Try.underlying9 t1
  obtain ⟨L, hL, hl1, hl2⟩ := open_cl t2
  have e0 := (List.cons.inj e0).1
  have e1 := (List.cons.inj e1).1
  have e2 := (List.cons.inj e2).1
  have e3 := (List.cons.inj e3).1
  have e4 := (List.cons.inj e4).1
  subst e0 e1 e2 e3 e4
  obtain ⟨a0, cap, rfl, _⟩ := id hL
  refine ⟨n0, n1, n2, n3, s.data.toList, L, a0, cap, ?_, hL, hl1, by rw [← Lib.size_eq]; exact hs, hl2⟩
  rw [M.bs_of]
  congr 1
  exact Array.toList_inj.1 hc
end
end Go.Proofs.Ytaepbmcmggnmpaa
