/-
  A page as it comes in: its numbers, its texts, its entries; the contract of the law's 'made' of any page.
-/
import Derived.Test.YtaepbmcmggnmpaaDoorK
import Derived.Test.YtaepbmcmggnmpaaDoorL
import Derived.Deep.Slices
import Derived.Deep.Strs
import Derived.OpenShut
import Derived.ProofKit
namespace Go.Proofs.YtaepbmcmggnmpaaDoor
open Go.RowKit Go.ChangeShapes Go.WideShapes Go.ChangeAt
set_option maxRecDepth 100000

theorem Vals.row {w : World} {a : Option Addr} {n c : Nat} {L : List M.En} (h : Vals w (.slice a n c) L) (hL : 0 < L.length) : ∃ b off, a = some ⟨b, off, none⟩ ∧ Row3 w b off L := by
  obtain ⟨x, y, hx, h⟩ := h
  simp only [Value.slice.injEq] at hx
  obtain ⟨rfl, _, _⟩ := hx
  exact h.resolve_left (fun e => by rw [e] at hL; simp at hL)
theorem made_any (n0 n1 n2 n3 : Int) (hi : List UInt8) (L : List M.En) (a : Option Addr) (cap : Nat) (w : World) (hv : Vals w (.slice a L.length cap) L) (hL2 : L.length ≤ maxLen) (hh : hi.length ≤ maxLen) (hs : ∀ e ∈ L, e.1.length ≤ maxLen ∧ e.2.1.length ≤ maxLen) :
    Calls Tryd.prog 12 #[.agg #[.int .i64 n0, .int .i64 n1, .int .i64 n2, .int .i64 n3, .string (M.bs hi), .slice a L.length cap]] w fun e w' => ∃ x y,
      e = .returned (.tuple #[.agg #[.int .i64 n0, .int .i64 n1, .int .i64 n2, .int .i64 n3, .string (M.bs (hi.take 80)), x], .agg #[.int .i64 n0, .int .i64 n1, .int .i64 n2, .int .i64 n3, .string (M.bs (hi.take 80)), y]]) ∧
        OwnE 71 w' w.heap.size x (cut L) ∧ OwnE 88 w' w.heap.size y (cut L) ∧ Bel w w' := by
  by_cases h0 : 0 < L.length
  · obtain ⟨b, off, rfl, hr⟩ := hv.row h0
    exact made_some n0 n1 n2 n3 hi L b off cap w hr h0 hL2 hh hs
  · have : L = [] := List.eq_nil_of_length_eq_zero (by omega)
    subst this
    exact made_nil n0 n1 n2 n3 hi a cap w hh
/-- The page that the law makes of what comes in. -/
def madeP (n0 n1 n2 n3 : Int) (hi : List UInt8) (L : List M.En) : M.Pg := { lsn := n0, kind := n1, level := n2, right := n3, high := hi.take 80, es := cut L }
theorem madeP_small (n0 n1 n2 n3 : Int) (hi : List UInt8) (L : List M.En) : Sm (madeP n0 n1 n2 n3 hi L) :=
  ⟨by simp only [madeP, List.length_take]; omega, by have := cut_length L; simp only [madeP]; omega, fun e he => by have := cut_small L e he; omega⟩

theorem cell89 : Tryd.prog.cellsOf 89 = 3 := by kernel_rfl
theorem cell23 : Tryd.prog.cellsOf 23 = 1 := by kernel_rfl
theorem cell22 : Tryd.prog.cellsOf 22 = 4 := by kernel_rfl
theorem cell25 : Tryd.prog.cellsOf 25 = 6 := by kernel_rfl
theorem cell9 : Tryd.prog.cellsOf 9 = 1 := by kernel_rfl
theorem cell3 : Tryd.prog.cellsOf 3 = 1 := by kernel_rfl
theorem cell4 : Tryd.prog.cellsOf 4 = 1 := by kernel_rfl
theorem addL (g o i : Nat) : (⟨g, o, none⟩ : Addr).add i = ⟨g, o + i, none⟩ := by unfold Addr.add; split <;> simp_all
section
variable {H : Type} {enc : TypeId × Value → H} {W : World}
theorem open_el {fuel : Nat} {v : Value} {x : DataW H × List MemPlace} (h : DataW.trod enc Tryd.prog W 0 (fun _ => true) true fuel 23 [v] = some x) :
    ∃ L : List M.En, Vals W v L ∧ L.length ≤ maxLen ∧ ∀ e ∈ L, e.1.length ≤ maxLen ∧ e.2.1.length ≤ maxLen := by
  rcases Deep.open_slice Tryd.underlying23 h with ⟨hcs, _⟩ | ⟨a', len', cap', m, n, D, Pl, hcs, _, hl, hm, hmm, _, hx⟩
  · obtain rfl := (List.cons.inj hcs).1
    exact ⟨[], ⟨none, 0, rfl, .inl rfl⟩, by simp, by simp⟩
  · obtain rfl := (List.cons.inj hcs).1
    rw [cell89] at hx
    have hlm : len' ≤ m := by rw [hmm]; simpa using hl
    have key : ∀ i, i < len' → ∃ x : M.En, (W.cell? (a'.add (i * 3)) = some (.string (M.bs x.1)) ∧ W.cell? (a'.add (i * 3 + 1)) = some (.string (M.bs x.2.1)) ∧ W.cell? (a'.add (i * 3 + 2)) = some (.bool x.2.2)) ∧ x.1.length ≤ maxLen ∧ x.2.1.length ≤ maxLen := by
      intro i hi
      obtain ⟨cs', hc, ht⟩ := hx i (by omega)
      obtain ⟨_, hl3, hcell⟩ := World.cells?_some hc
      obtain ⟨y0, y1, y2, k, _, _, t0, t1, t2⟩ := Deep.trod_struct3 Tryd.underlying89 ht
      obtain ⟨s, e0, _, hs⟩ := DataW.trod_string Tryd.underlying9 t0
      obtain ⟨s', e1, _, hs'⟩ := DataW.trod_string Tryd.underlying9 t1
      obtain ⟨b, e2, _⟩ := DataW.trod_bool Tryd.underlying4 t2
      obtain ⟨c0, c1, c2, rfl⟩ : ∃ c0 c1 c2, cs' = [c0, c1, c2] := by
        match cs', hl3 with
        | [c0, c1, c2], _ => exact ⟨c0, c1, c2, rfl⟩
      simp only [cell9, cell4, List.drop_zero, List.drop_succ_cons, List.take_succ_cons, List.take_zero, List.cons.injEq, and_true] at e0 e1 e2
      subst e0 e1 e2
      refine ⟨(s.data.toList, s'.data.toList, b), ⟨?_, ?_, ?_⟩, ?_, ?_⟩
      · have := hcell 0 (by omega)
        rw [Deep.add_add] at this
        rw [M.bs_of]; exact this
      · have := hcell 1 (by omega)
        rw [Deep.add_add] at this
        rw [M.bs_of]; exact this
      · have := hcell 2 (by omega)
        rw [Deep.add_add] at this
        exact this
      · rw [← Lib.size_eq]; exact hs
      · rw [← Lib.size_eq]; exact hs'
    obtain ⟨V, hV⟩ := Deep.choose_lt key
    refine ⟨(List.range len').map V, ⟨some a', cap', by simp, ?_⟩, by rw [List.length_map, List.length_range]; omega, ?_⟩
    · by_cases h0 : len' = 0
      · left; subst h0; rfl
      · right
        obtain ⟨b, off, spot⟩ := a'
        have hspot : spot = none := by simpa [Addr.add] using World.cell?_spot (hV 0 (by omega)).1.1
        subst hspot
        refine ⟨b, off, rfl, fun j hj => ?_⟩
        have hj' : j < len' := by simpa using hj
        obtain ⟨⟨k0, k1, k2⟩, _⟩ := hV j hj'
        rw [addL] at k0 k1 k2
        simp only [List.getElem_map, List.getElem_range]
        exact ⟨k0, by rw [Nat.add_assoc]; exact k1, by rw [Nat.add_assoc]; exact k2⟩
    · intro q hq
      simp only [List.mem_map, List.mem_range] at hq
      obtain ⟨i, hi, rfl⟩ := hq
      exact (hV i hi).2
theorem six_of {l : List Value} (h : l.length = 6) : ∃ a b c d e f, l = [a, b, c, d, e, f] := by
  rcases l with _ | ⟨a, _ | ⟨b, _ | ⟨c, _ | ⟨d, _ | ⟨e, _ | ⟨f, _ | ⟨g, r⟩⟩⟩⟩⟩⟩⟩ <;> first | (simp at h; done) | exact ⟨a, b, c, d, e, f, rfl⟩
theorem open_raw {base : Nat} {r : Reach} {v : Value} {d : DataW H} {p : List MemPlace} (hv : Value.okWide Tryd.prog W r base 25 v)
    (h : DataW.Trod enc Tryd.prog W 0 (fun _ => true) true 25 v d p) : ∃ (n0 n1 n2 n3 : Int) (hi : List UInt8) (L : List M.En) (a0 : Option Addr) (cap : Nat),
      v = .agg #[.int .i64 n0, .int .i64 n1, .int .i64 n2, .int .i64 n3, .string (M.bs hi), .slice a0 L.length cap] ∧ Vals W (.slice a0 L.length cap) L ∧ L.length ≤ maxLen ∧ hi.length ≤ maxLen ∧ (∀ e ∈ L, e.1.length ≤ maxLen ∧ e.2.1.length ≤ maxLen) ∧ -9223372036854775808 ≤ n0 ∧ n0 ≤ 9223372036854775807 := by
  obtain ⟨cs, rfl, hcs⟩ := okWide_struct Tryd.underlying25 hv
  obtain ⟨fuel, hf⟩ := h
  have e : (Value.agg cs).cells.toList = cs.toList := rfl
  rw [e] at hf
  obtain ⟨xs, n, _, _, hl, hxl, hel⟩ := DataW.trod_struct Tryd.underlying25 hf
  rw [cell25] at hl
  obtain ⟨c0, c1, c2, c3, c4, c5, hc⟩ := six_of hl
  have hxl : xs.length = 3 := hxl
  have t0 := hel 0 _ rfl
  have t1 := hel 1 _ rfl
  have t2 := hel 2 _ rfl
  rw [List.getElem?_eq_getElem (by omega)] at t0 t1 t2
  rw [hc] at t0 t1 t2
  have t0 : DataW.trod enc Tryd.prog W 0 (fun _ => true) true n 22 ([c0, c1, c2, c3, c4, c5].drop 0 |>.take (Tryd.prog.cellsOf 22)) = some _ := t0
  have t1 : DataW.trod enc Tryd.prog W 0 (fun _ => true) true n 9 ([c0, c1, c2, c3, c4, c5].drop 4 |>.take (Tryd.prog.cellsOf 9)) = some _ := t1
  have t2 : DataW.trod enc Tryd.prog W 0 (fun _ => true) true n 23 ([c0, c1, c2, c3, c4, c5].drop 5 |>.take (Tryd.prog.cellsOf 23)) = some _ := t2
  rw [cell22] at t0
  rw [cell9] at t1
  rw [cell23] at t2
  have t0 : DataW.trod enc Tryd.prog W 0 (fun _ => true) true n 22 [c0, c1, c2, c3] = some _ := t0
  have t1 : DataW.trod enc Tryd.prog W 0 (fun _ => true) true n 9 [c4] = some _ := t1
  have t2 : DataW.trod enc Tryd.prog W 0 (fun _ => true) true n 23 [c5] = some _ := t2
  obtain ⟨ys, m, _, _, _, hyl, hy⟩ := DataW.trod_array Tryd.underlying22 t0
  have y0 := hy 0 (by omega)
  have y1 := hy 1 (by omega)
  have y2 := hy 2 (by omega)
  have y3 := hy 3 (by omega)
  rw [cell3, List.getElem?_eq_getElem (by omega)] at y0 y1 y2 y3
  have y0 : DataW.trod enc Tryd.prog W 0 (fun _ => true) true m 3 [c0] = some _ := y0
  have y1 : DataW.trod enc Tryd.prog W 0 (fun _ => true) true m 3 [c1] = some _ := y1
  have y2 : DataW.trod enc Tryd.prog W 0 (fun _ => true) true m 3 [c2] = some _ := y2
  have y3 : DataW.trod enc Tryd.prog W 0 (fun _ => true) true m 3 [c3] = some _ := y3
  obtain ⟨n0, e0, _, hz0⟩ := DataW.trod_int Tryd.underlying3 y0
  obtain ⟨n1, e1, _, _⟩ := DataW.trod_int Tryd.underlying3 y1
  obtain ⟨n2, e2, _, _⟩ := DataW.trod_int Tryd.underlying3 y2
  obtain ⟨n3, e3, _, _⟩ := DataW.trod_int Tryd.underlying3 y3
  obtain ⟨s, e4, _, hs⟩ := DataW.trod_string Tryd.underlying9 t1
  obtain ⟨L, hL, hl1, hl2⟩ := open_el t2
  have e0 := (List.cons.inj e0).1
  have e1 := (List.cons.inj e1).1
  have e2 := (List.cons.inj e2).1
  have e3 := (List.cons.inj e3).1
  have e4 := (List.cons.inj e4).1
  subst e0 e1 e2 e3 e4
  obtain ⟨a0, cap, rfl, _⟩ := id hL
  refine ⟨n0, n1, n2, n3, s.data.toList, L, a0, cap, ?_, hL, hl1, by rw [← Lib.size_eq]; exact hs, hl2, (bounds_i64 hz0).1, (bounds_i64 hz0).2⟩
  rw [M.bs_of]
  congr 1
  exact Array.toList_inj.1 hc
end
end Go.Proofs.YtaepbmcmggnmpaaDoor
