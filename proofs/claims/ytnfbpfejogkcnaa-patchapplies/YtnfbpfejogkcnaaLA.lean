/-
  The law PatchApplies, walked.
-/
import Derived.Test.YtnfbpfejogkcnaaX
import Derived.Test.YtnfbpfejogkcnaaI
import Derived.Test.YtnfbpfejogkcnaaJ
import Derived.Test.YtnfbpfejogkcnaaF
import Derived.Deep.Slices
import Derived.Deep.Strs
namespace Go.Proofs.Ytnfbpfejogkcnaa
open Go.RowKit Go.ChangeShapes Go.WideShapes Go.ChangeAt

theorem cells65 : Try.prog.cellsOf 65 = 2 := by kernel_rfl
theorem cells9 : Try.prog.cellsOf 9 = 1 := by kernel_rfl
theorem cells3' : Try.prog.cellsOf 3 = 1 := by kernel_rfl
theorem open_pieces {H : Type} {enc : TypeId × Value → H} {W : World} {base : Nat} {r : Reach} {v : Value} {d : DataW H} {p : List MemPlace} (hv : Value.okWide Try.prog W r base 35 v)
    (h : DataW.Trod enc Try.prog W 0 (fun _ => true) true 35 v d p) : ∃ (L : List M.Pc) (a : Option Addr) (cap : Nat), v = .slice a L.length cap ∧ L.length ≤ maxLen ∧ (L = [] ∨ ∃ b off, a = some ⟨b, off, none⟩ ∧ Row2 W b off L) ∧ ∀ p ∈ L, p.2.length ≤ maxLen := by
  obtain ⟨a, len, cap, rfl⟩ := okWide_slice Try.underlying35 hv
  obtain ⟨fuel, hf⟩ := h
  rcases Deep.open_slice Try.underlying35 hf with ⟨hcs, _⟩ | ⟨a', len', cap', m, n, D, Pl, hcs, _, hl, hm, hmm, _, hx⟩
  · have e : (Value.slice a len cap).cells.toList = [.slice a len cap] := rfl
    rw [e] at hcs
    injection hcs with hcs
    injection hcs with h1 h2 h3
    subst h1 h2 h3
    exact ⟨[], none, 0, rfl, by simp, .inl rfl, by simp⟩
  · have e : (Value.slice a len cap).cells.toList = [.slice a len cap] := rfl
    rw [e] at hcs
    injection hcs with hcs
    injection hcs with h1 h2 h3
    subst h1 h2 h3
    rw [cells65] at hx
    have hlm : len ≤ m := by rw [hmm]; simpa using hl
    have key : ∀ i, i < len → ∃ x : M.Pc, (W.cell? (a'.add (i * 2)) = some (.int .i64 x.1) ∧ W.cell? (a'.add (i * 2 + 1)) = some (.string (M.bs x.2))) ∧ x.2.length ≤ maxLen := by
      intro i hi
      obtain ⟨cs', hc, ht⟩ := hx i (by omega)
      obtain ⟨_, hl3, hcell⟩ := World.cells?_some hc
      obtain ⟨y0, y1, k, _, _, t0, t1⟩ := trod_struct2 Try.underlying65 ht
      obtain ⟨z, e0, _, hz⟩ := DataW.trod_int Try.underlying3 t0
      obtain ⟨s, e1, _, hs⟩ := DataW.trod_string Try.underlying9 t1
      obtain ⟨c0, c1, rfl⟩ : ∃ c0 c1, cs' = [c0, c1] := by
        match cs', hl3 with
        | [c0, c1], _ => exact ⟨c0, c1, rfl⟩
      simp only [cells9, cells3', List.drop_zero, List.drop_succ_cons, List.take_succ_cons, List.take_zero, List.cons.injEq, and_true] at e0 e1
      subst e0 e1
      refine ⟨(z, s.data.toList), ⟨?_, ?_⟩, ?_⟩
      · have := hcell 0 (by omega)
        rw [Deep.add_add] at this
        exact this
      · have := hcell 1 (by omega)
        rw [Deep.add_add] at this
        rw [M.bs_of]; exact this
      · rw [← Lib.size_eq]; exact hs
    obtain ⟨V, hV⟩ := Deep.choose_lt key
    refine ⟨(List.range len).map V, some a', cap, by simp, by rw [List.length_map, List.length_range]; omega, ?_, ?_⟩
    · by_cases h0 : len = 0
      · left; subst h0; rfl
      · right
        obtain ⟨b, off, spot⟩ := a'
        have hspot : spot = none := by simpa [Addr.add] using World.cell?_spot (hV 0 (by omega)).1.1
        subst hspot
        refine ⟨b, off, rfl, fun j hj => ?_⟩
        have hj' : j < len := by simpa using hj
        obtain ⟨⟨k0, k1⟩, _⟩ := hV j hj'
        rw [add_lit] at k0 k1
        simp only [List.getElem_map, List.getElem_range]
        exact ⟨k0, by rw [Nat.add_assoc]; exact k1⟩
    · intro x hxm
      simp only [List.mem_map, List.mem_range] at hxm
      obtain ⟨i, hi, rfl⟩ := hxm
      exact (hV i hi).2

theorem applies_long (s : List UInt8) (x : Value) (w : World) (h : 1000 < s.length) :
    Calls Try.prog 4 #[.string (M.bs s), x] w fun e w' => e = .returned (.bool true) ∧ Bel w w' := by
  have zs : (M.bs s).size = s.length := M.bs_size s
  go_enter Try.func4, Try.ntmps4
  go_wp2_with fail
  refine (speaks_any _).mono ?_
  rintro e w1 ⟨rfl, b1⟩
  go_wp2_with fail
  go_ret
  exact ⟨rfl, b1⟩
set_option maxHeartbeats 2000000 in
theorem applies_short (s : List UInt8) (L : List M.Pc) (x : Value) (w : World) (h : s.length ≤ 1000) (hv : Vals w x L) (hL : L.length ≤ maxLen) (hs : ∀ p ∈ L, p.2.length ≤ maxLen) :
    Calls Try.prog 4 #[.string (M.bs s), x] w fun e w' => e = .returned (.bool true) ∧ Bel w w' := by
  have zs : (M.bs s).size = s.length := M.bs_size s
  have hcl := cut_length L
  have hcs := cut_small L
  have H1 := fun W hv => both_any L x W hv hL hs
  have H2 := fun y W hv => apply_any s (cut L) y W hv (by omega) (fun p hp => by have := hcs p hp; omega) (by omega)
  have H3 := fun y W hv => rapply_any s (cut L) y W hv (by omega) (fun p hp => by have := hcs p hp; omega) (by omega)
  have H4 := fun y W hv => putP_any (cut L) y W hv (by omega) (fun p hp => by have := hcs p hp; omega)
  have H5 := fun y W hv => rputP_any (cut L) y W hv (by omega) (fun p hp => by have := hcs p hp; omega)
  clear hcl hcs hs
  generalize M.bs (M.apply s (cut L)).1 = A at *
  generalize (M.apply s (cut L)).2 = E at *
  generalize M.bs (M.putP (cut L)) = P at *
  have q1 : (A.toList == A.toList) = true := by simp
  have q2 : (((E : Nat) : Int) == (E : Int)) = true := by simp
  have q3 : (P.toList == P.toList) = true := by simp
  go_enter Try.func4, Try.ntmps4
  go_wp2_with fail
  refine (speaks_any _).mono ?_
  rintro e w1 ⟨rfl, b1⟩
  go_wp2_with fail
  refine (H1 _ (hv.bel b1)).mono ?_
  rintro e w2 ⟨x1, y1, rfl, o2, p2, b2⟩
  go_wp2_with fail
  refine (H2 _ _ o2.vals).mono ?_
  rintro e w3 ⟨rfl, b3⟩
  have o3 := o2.bel b3
  have p3 := p2.bel b3
  clear o2 p2
  go_wp2_with fail
  refine (H3 _ _ p3.vals).mono ?_
  rintro e w4 ⟨rfl, b4⟩
  have o4 := o3.bel b4
  have p4 := p3.bel b4
  clear o3 p3
  go_wp2_with fail
  refine (H4 _ _ o4.vals).mono ?_
  rintro e w5 ⟨rfl, b5⟩
  have p5 := p4.bel b5
  clear o4 p4
  go_wp2_with fail
  refine (H5 _ _ p5.vals).mono ?_
  rintro e w6 ⟨rfl, b6⟩
  clear p5
  go_wp2_with fail
  go_ret
  exact ⟨rfl, ((((b1.tr b2).tr b3).tr b4).tr b5).tr b6⟩
theorem applies_any (s : ByteArray) (L : List M.Pc) (a : Option Addr) (cap : Nat) (w : World) (_hs : s.size ≤ maxLen) (hL : L.length ≤ maxLen) (hv : (L = [] ∨ ∃ b off, a = some ⟨b, off, none⟩ ∧ Row2 w b off L) ∧ ∀ p ∈ L, p.2.length ≤ maxLen) :
    Calls Try.prog 4 #[.string s, .slice a L.length cap] w fun e w' => e = .returned (.bool true) ∧ Bel w w' := by
  rw [← M.bs_of s]
  generalize s.data.toList = s
  by_cases h : 1000 < s.length
  · exact applies_long s _ w h
  · exact applies_short s L _ w (by omega) ⟨a, cap, rfl, hv.1⟩ hL hv.2
end Go.Proofs.Ytnfbpfejogkcnaa
