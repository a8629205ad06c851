/-
  Lists of acts, and of numbers, as they come in.
-/
import Derived.Test.YtoelaemneoabfaaO
import Derived.ProofKit
import Derived.OpenShut
import Derived.SliceStrings
import Derived.Deep.Slices
import Derived.Deep.Strs
namespace Go.Proofs.Ytoelaemneoabfaa
open Go.RowKit Go.ChangeShapes Go.WideShapes Go.ChangeAt

/-- An act, as it comes in: kv: its slice value, which reads as keep. -/
structure Act where
  what : Int
  at' : Int
  data : M.Tx
  kv : Value
  keep : List Int
instance : Inhabited Act := ⟨0, 0, [], .slice none 0 0, []⟩
def RowA (w : World) (b off : Nat) (L : List Act) : Prop := ∀ j (h : j < L.length),
  w.cell? ⟨b, off + j * 4, none⟩ = some (.int .i64 L[j].what) ∧ w.cell? ⟨b, off + j * 4 + 1, none⟩ = some (.int .i64 L[j].at') ∧ w.cell? ⟨b, off + j * 4 + 2, none⟩ = some (.string (M.bs L[j].data)) ∧ w.cell? ⟨b, off + j * 4 + 3, none⟩ = some L[j].kv ∧
    ReadsN w L[j].kv L[j].keep ∧ (Lit.int .i64 L[j].what).wf = true ∧ (Lit.int .i64 L[j].at').wf = true ∧ L[j].data.length ≤ maxLen ∧ L[j].keep.length ≤ maxLen ∧ ∃ a c, L[j].kv = .slice a L[j].keep.length c ∧ L[j].keep.length ≤ c
theorem cells35 : Try.prog.cellsOf 35 = 4 := by kernel_rfl
theorem cells3 : Try.prog.cellsOf 3 = 1 := by kernel_rfl
theorem cells9 : Try.prog.cellsOf 9 = 1 := by kernel_rfl
theorem cells29 : Try.prog.cellsOf 29 = 1 := by kernel_rfl
theorem four_of {l : List Value} (h : l.length = 4) : ∃ a b c d, l = [a, b, c, d] := by
  rcases l with _ | ⟨a, _ | ⟨b, _ | ⟨c, _ | ⟨d, _ | ⟨e, r⟩⟩⟩⟩⟩ <;> first | (simp at h; done) | exact ⟨a, b, c, d, rfl⟩
theorem readsN_trod {H : Type} {enc : TypeId × Value → H} {W : World} {fuel : Nat} {v : Value} {x : DataW H × List MemPlace} (h : DataW.trod enc Try.prog W 0 (fun _ => true) true fuel 29 [v] = some x) : ∃ K, ReadsN W v K ∧ K.length ≤ maxLen ∧ ∃ a cap, v = .slice a K.length cap ∧ K.length ≤ cap := by
  rcases open_ints Try.underlying29 Try.underlying3 (by kernel_rfl) h with ⟨hcs, _⟩ | ⟨a', len, cap, zs, hcs, _, hl, hm, hz, _, hc, _⟩
  · obtain rfl := (List.cons.inj hcs).1
    exact ⟨[], ReadsN.none _ _ _, by simp, none, 0, rfl, by simp⟩
  · obtain rfl := (List.cons.inj hcs).1
    have hlz : len ≤ zs.length := by rw [hz]; simpa using hl
    have hlen : (zs.take len).length = len := by rw [List.length_take]; omega
    refine ⟨zs.take len, ⟨some a', cap, by rw [hlen], ?_⟩, by rw [hlen]; omega, some a', cap, by rw [hlen], by rw [hlen]; exact hl⟩
    by_cases h0 : len = 0
    · left; rw [h0]; rfl
    · right
      obtain ⟨b, off, spot⟩ := a'
      have hspot : spot = none := by simpa [Addr.add] using World.cell?_spot (hc 0 (by omega))
      subst hspot
      refine ⟨b, off, rfl, fun j hj => ?_⟩
      have hj' : j < len := by rw [hlen] at hj; exact hj
      have := hc j (by omega)
      rw [add_lit] at this
      rw [this, List.getElem_take, List.getD_eq_getElem?_getD, List.getElem?_eq_getElem (by omega)]
      rfl
theorem open_keep {H : Type} {enc : TypeId × Value → H} {W : World} {base : Nat} {r : Reach} {v : Value} {d : DataW H} {p : List MemPlace} (hv : Value.okWide Try.prog W r base 29 v)
    (h : DataW.Trod enc Try.prog W 0 (fun _ => true) true 29 v d p) : ∃ (L : List Int) (a : Option Addr) (cap : Nat), v = .slice a L.length cap ∧ (L.length ≤ maxLen ∧ L.length ≤ cap) ∧ ReadsN W v L := by
  obtain ⟨a, len, cap, rfl⟩ := okWide_slice Try.underlying29 hv
  obtain ⟨fuel, hf⟩ := h
  have e : (Value.slice a len cap).cells.toList = [.slice a len cap] := rfl
  rw [e] at hf
  obtain ⟨K, hK, hl, a', cap', hv', hc⟩ := readsN_trod hf
  exact ⟨K, a', cap', hv', ⟨hl, hc⟩, hK⟩
theorem open_acts {H : Type} {enc : TypeId × Value → H} {W : World} {base : Nat} {r : Reach} {v : Value} {d : DataW H} {p : List MemPlace} (hv : Value.okWide Try.prog W r base 22 v)
    (h : DataW.Trod enc Try.prog W 0 (fun _ => true) true 22 v d p) : ∃ (L : List Act) (a : Option Addr) (cap : Nat), v = .slice a L.length cap ∧ L.length ≤ maxLen ∧ (L = [] ∨ ∃ g off, a = some ⟨g, off, none⟩ ∧ RowA W g off L) := by
  obtain ⟨a, len, cap, rfl⟩ := okWide_slice Try.underlying22 hv
  obtain ⟨fuel, hf⟩ := h
  rcases Deep.open_slice Try.underlying22 hf with ⟨hcs, _⟩ | ⟨a', len', cap', m, n, D, Pl, hcs, _, hl, hm, hmm, _, hx⟩
  · have e : (Value.slice a len cap).cells.toList = [.slice a len cap] := rfl
    rw [e] at hcs
    obtain ⟨h1, h2, h3⟩ := Value.slice.inj (List.cons.inj hcs).1
    subst h1 h2 h3
    exact ⟨[], none, 0, rfl, by simp, .inl rfl⟩
  · have e : (Value.slice a len cap).cells.toList = [.slice a len cap] := rfl
    rw [e] at hcs
    obtain ⟨h1, h2, h3⟩ := Value.slice.inj (List.cons.inj hcs).1
    subst h1 h2 h3
    rw [cells35] at hx
    have hlm : len ≤ m := by rw [hmm]; simpa using hl
    have key : ∀ i, i < len → ∃ x : Act, W.cell? (a'.add (i * 4)) = some (.int .i64 x.what) ∧ W.cell? (a'.add (i * 4 + 1)) = some (.int .i64 x.at') ∧ W.cell? (a'.add (i * 4 + 2)) = some (.string (M.bs x.data)) ∧ W.cell? (a'.add (i * 4 + 3)) = some x.kv ∧
        ReadsN W x.kv x.keep ∧ (Lit.int .i64 x.what).wf = true ∧ (Lit.int .i64 x.at').wf = true ∧ x.data.length ≤ maxLen ∧ x.keep.length ≤ maxLen ∧ ∃ a c, x.kv = .slice a x.keep.length c ∧ x.keep.length ≤ c := by
      intro i hi
      obtain ⟨cs', hc, ht⟩ := hx i (by omega)
      obtain ⟨_, hl2, hcell⟩ := World.cells?_some hc
      obtain ⟨xs, k, _, _, _, hxl, hel⟩ := DataW.trod_struct Try.underlying35 ht
      obtain ⟨c0, c1, c2, c3, rfl⟩ := four_of hl2
      have t0 := hel 0 _ rfl
      have t1 := hel 1 _ rfl
      have t2 := hel 2 _ rfl
      have t3 := hel 3 _ rfl
      have hxl : xs.length = 4 := hxl
      rw [List.getElem?_eq_getElem (by omega)] at t0 t1 t2 t3
      have t0 : DataW.trod enc Try.prog W 0 (fun _ => true) true k 3 ([c0, c1, c2, c3].drop 0 |>.take (Try.prog.cellsOf 3)) = some _ := t0
      have t1 : DataW.trod enc Try.prog W 0 (fun _ => true) true k 3 ([c0, c1, c2, c3].drop 1 |>.take (Try.prog.cellsOf 3)) = some _ := t1
      have t2 : DataW.trod enc Try.prog W 0 (fun _ => true) true k 9 ([c0, c1, c2, c3].drop 2 |>.take (Try.prog.cellsOf 9)) = some _ := t2
      have t3 : DataW.trod enc Try.prog W 0 (fun _ => true) true k 29 ([c0, c1, c2, c3].drop 3 |>.take (Try.prog.cellsOf 29)) = some _ := t3
      rw [cells3] at t0 t1
      rw [cells9] at t2
      rw [cells29] at t3
      have t0 : DataW.trod enc Try.prog W 0 (fun _ => true) true k 3 [c0] = some _ := t0
      have t1 : DataW.trod enc Try.prog W 0 (fun _ => true) true k 3 [c1] = some _ := t1
      have t2 : DataW.trod enc Try.prog W 0 (fun _ => true) true k 9 [c2] = some _ := t2
      have t3 : DataW.trod enc Try.prog W 0 (fun _ => true) true k 29 [c3] = some _ := t3
      obtain ⟨z0, e0, _, f0⟩ := DataW.trod_int Try.underlying3 t0
      obtain ⟨z1, e1, _, f1⟩ := DataW.trod_int Try.underlying3 t1
      obtain ⟨z2, e2, _, f2⟩ := DataW.trod_string Try.underlying9 t2
      obtain ⟨K, hK, hKl, ka, kc, hkv, hkc⟩ := readsN_trod t3
      obtain rfl := (List.cons.inj e0).1
      obtain rfl := (List.cons.inj e1).1
      obtain rfl := (List.cons.inj e2).1
      have g0 := hcell 0 (by omega)
      have g1 := hcell 1 (by omega)
      have g2 := hcell 2 (by omega)
      have g3 := hcell 3 (by omega)
      rw [Deep.add_add] at g0 g1 g2 g3
      refine ⟨⟨z0, z1, z2.data.toList, c3, K⟩, g0, g1, ?_, g3, hK, f0, f1, ?_, hKl, ka, kc, hkv, hkc⟩
      · show _ = some (Value.string (M.bs z2.data.toList))
        rw [M.bs_of]; exact g2
      · exact f2
    obtain ⟨V, hV⟩ := Deep.choose_lt key
    refine ⟨(List.range len).map V, some a', cap, by simp, by rw [List.length_map, List.length_range]; omega, ?_⟩
    by_cases h0 : len = 0
    · left; subst h0; rfl
    · right
      obtain ⟨b, off, spot⟩ := a'
      have hspot : spot = none := by simpa [Addr.add] using World.cell?_spot (hV 0 (by omega)).1
      subst hspot
      refine ⟨b, off, rfl, fun j hj => ?_⟩
      have hj' : j < len := by simpa using hj
      obtain ⟨k0, k1, k2, k3, k4⟩ := hV j hj'
      rw [add_lit] at k0 k1 k2 k3
      simp only [List.getElem_map, List.getElem_range]
      exact ⟨k0, by rw [Nat.add_assoc]; exact k1, by rw [Nat.add_assoc]; exact k2, by rw [Nat.add_assoc]; exact k3, k4⟩
end Go.Proofs.Ytoelaemneoabfaa
