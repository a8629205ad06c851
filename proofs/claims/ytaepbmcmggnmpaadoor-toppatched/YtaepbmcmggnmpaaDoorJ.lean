/-
  What the contract of the law's 'made' wants: cuts, blocks of six cells, the second row of entries.
-/
import Derived.Test.YtaepbmcmggnmpaaDoorFA
import Derived.Lib.MinMax
import Derived.Deep.RegionHeld3
namespace Go.Proofs.YtaepbmcmggnmpaaDoor
open Go.RowKit
set_option maxRecDepth 100000

theorem cut_eq (t : List UInt8) (n : Nat) : (M.bs t).extract 0 (min (t.length : Int) (n : Int)).toNat = M.bs (t.take n) := by
  rw [M.extract_bs, M.bs_data, List.drop_zero]
  congr 1
  by_cases h : t.length ≤ n
  · rw [List.take_of_length_le (by omega), List.take_of_length_le h]
  · congr 1; omega
/-- An entry, its texts cut. -/
def cut1 (e : M.En) : M.En := (e.1.take 80, e.2.1.take 120, e.2.2)
def cut (L : List M.En) : List M.En := (L.take 200).map cut1
theorem cut_length (L : List M.En) : (cut L).length ≤ 200 := by unfold cut; rw [List.length_map, List.length_take]; omega
theorem cut_small (L : List M.En) : ∀ e ∈ cut L, e.1.length ≤ 80 ∧ e.2.1.length ≤ 120 := by
  intro p hp
  obtain ⟨q, _, rfl⟩ := List.mem_map.1 hp
  simp only [cut1, List.length_take]; omega
/-- A block of six cells of a type. -/
def Bt (t : TypeId) (w : World) (b : Nat) (c0 c1 c2 c3 c4 c5 : Value) : Prop := w.heap[b]? = some (.cells #[c0, c1, c2, c3, c4, c5] t (0, 0))
theorem Bt.lt {t : TypeId} {w : World} {b : Nat} {c0 c1 c2 c3 c4 c5 : Value} (h : Bt t w b c0 c1 c2 c3 c4 c5) : b < w.heap.size := (Array.getElem?_eq_some_iff.1 h).1
theorem Bt.bel {t : TypeId} {b : Nat} {w w' : World} {c0 c1 c2 c3 c4 c5 : Value} (h : Bt t w b c0 c1 c2 c3 c4 c5) (k : Bel w w') : Bt t w' b c0 c1 c2 c3 c4 c5 := (k.block b h.lt).trans h
theorem Bt.cells {t : TypeId} {w : World} {b : Nat} {c0 c1 c2 c3 c4 c5 : Value} (h : Bt t w b c0 c1 c2 c3 c4 c5) : w.cell? ⟨b, 0, none⟩ = some c0 ∧ w.cell? ⟨b, 1, none⟩ = some c1 ∧ w.cell? ⟨b, 2, none⟩ = some c2 ∧ w.cell? ⟨b, 3, none⟩ = some c3 ∧ w.cell? ⟨b, 4, none⟩ = some c4 ∧ w.cell? ⟨b, 5, none⟩ = some c5 := cells6_of h
theorem Bt.froz {t : TypeId} {w : World} {b : Nat} {c0 c1 c2 c3 c4 c5 : Value} (h : Bt t w b c0 c1 c2 c3 c4 c5) (j : Nat) : w.frozen? ⟨b, j, none⟩ = false := Lib.frozen_of_heap h j
theorem Bt.set {t : TypeId} {w : World} {b : Nat} {c0 c1 c2 c3 c4 c5 : Value} (h : Bt t w b c0 c1 c2 c3 c4 c5) (j : Nat) (u : Value) : (w.setCell ⟨b, j, none⟩ u).heap[b]? = some (.cells (#[c0, c1, c2, c3, c4, c5].setIfInBounds j u) t (0, 0)) := heap_setCell_same w b j _ t u h
theorem Bt.other {t : TypeId} {w : World} {b g j : Nat} {u c0 c1 c2 c3 c4 c5 : Value} (h : Bt t w b c0 c1 c2 c3 c4 c5) (hne : b ≠ g) : Bt t (w.setCell ⟨g, j, none⟩ u) b c0 c1 c2 c3 c4 c5 := (Below.heap_setCell _ _ _ _ (by simpa using hne)).trans h
theorem Bt.grown {t : TypeId} {b : Nat} {w w' : World} {row : Option Nat} {c0 c1 c2 c3 c4 c5 : Value} (h : Bt t w b c0 c1 c2 c3 c4 c5) (k : w.grownBy w' row) (hb : row ≠ some b) : Bt t w' b c0 c1 c2 c3 c4 c5 := (k.block b h.lt (fun e => hb e.symm)).trans h
theorem Bt.five {t : TypeId} {w : World} {b : Nat} {c0 c1 c2 c3 c4 c5 : Value} (h : Bt t w b c0 c1 c2 c3 c4 c5) (x : Value) : Bt t (w.setCell ⟨b, 5, none⟩ x) b c0 c1 c2 c3 c4 x := h.set 5 x
theorem Bt.six {t : TypeId} {W : World} {b : Nat} {c0 c1 c2 c3 c4 c5 : Value} (h : Bt t W b c0 c1 c2 c3 c4 c5) (x0 x1 x2 x3 x4 x5 : Value) : Bt t (six W b x0 x1 x2 x3 x4 x5) b x0 x1 x2 x3 x4 x5 := by
  have h0 : Bt t (W.setCell ⟨b, 0, none⟩ x0) b x0 c1 c2 c3 c4 c5 := h.set 0 x0
  have h1 : Bt t ((W.setCell ⟨b, 0, none⟩ x0).setCell ⟨b, 1, none⟩ x1) b x0 x1 c2 c3 c4 c5 := h0.set 1 x1
  have h2 : Bt t (((W.setCell ⟨b, 0, none⟩ x0).setCell ⟨b, 1, none⟩ x1).setCell ⟨b, 2, none⟩ x2) b x0 x1 x2 c3 c4 c5 := h1.set 2 x2
  have h3 : Bt t ((((W.setCell ⟨b, 0, none⟩ x0).setCell ⟨b, 1, none⟩ x1).setCell ⟨b, 2, none⟩ x2).setCell ⟨b, 3, none⟩ x3) b x0 x1 x2 x3 c4 c5 := h2.set 3 x3
  have h4 : Bt t (((((W.setCell ⟨b, 0, none⟩ x0).setCell ⟨b, 1, none⟩ x1).setCell ⟨b, 2, none⟩ x2).setCell ⟨b, 3, none⟩ x3).setCell ⟨b, 4, none⟩ x4) b x0 x1 x2 x3 x4 c5 := h3.set 4 x4
  exact h4.set 5 x5
theorem Bt.sixOther {t : TypeId} {w : World} {b g : Nat} {c0 c1 c2 c3 c4 c5 : Value} (h : Bt t w b c0 c1 c2 c3 c4 c5) (hne : b ≠ g) (x0 x1 x2 x3 x4 x5 : Value) : Bt t (Go.Proofs.YtaepbmcmggnmpaaDoor.six w g x0 x1 x2 x3 x4 x5) b c0 c1 c2 c3 c4 c5 :=
  (((((h.other hne).other hne).other hne).other hne).other hne).other hne
theorem info88 : (Tryd.prog.info? 88).map (fun i => (i.zero, i.size, i.bytes)) = some (some (.agg #[.string ⟨#[]⟩, .string ⟨#[]⟩, .bool false]), 3, 40) := by kernel_rfl
theorem appS88 {ops : Array Oper} {o : Oper} {a : Act} {K : Act → World → Prop} {Q : Exit → Act → World → Prop} {E : Prop} {W : World} (hgd : o.guard = none) (s x : Operand)
    (ho : o.op = .call { callee := .builtin .append, args := #[s, x], argTypes := #[30, 30] }) (base : Nat) (v : Value) (L : List M.En) (hs : a.eval s = v) (hown : OwnE 88 W base v L) (e : M.En)
    (g : Nat) (hx : a.eval x = .slice (some ⟨g, 0, none⟩) 1 1) (hc : Cells3 W g e) (hlen : L.length ≤ 100000) (hbase : base ≤ W.heap.size)
    (h : ∀ v' w', OwnE 88 w' base v' (L ++ [e]) → W.grownBy w' v.ownBlock → K (a.put o.dst v') w') :
    if Region.wanted o (yielded ops a.tmps) = true then Oper.wp Tryd.prog o a W K Q else E := by
  have hw : Region.wanted o (yielded ops a.tmps) = true := by simp [Region.wanted, hgd]
  rw [if_pos hw]
  obtain ⟨i0, hi, hz0, hz1, hz2⟩ := info_parts info88
  refine wp_append_own W s x 30 ho base 88 i0 _ 3 40 Tryd.underlying30 hi hz0 hz1 hz2 rfl (by decide) v L.length _ hs hown ⟨g, 0, none⟩ 1 1 (cells3 e) hx rfl hc.news ?_ (by unfold maxLen; omega) (by omega) hbase ?_
  · intro u hu; simp [cells3] at hu; rcases hu with rfl | rfl | rfl <;> rfl
  · intro v' w' h1 h2 _
    exact h v' w' (by unfold OwnE; simpa using h1) h2
/-- Rows of two element types are two rows. -/
theorem two_rows {W : World} {base : Nat} {x y : Value} {L M' : List M.En} (hx : OwnE 71 W base x L) (hy : OwnE 88 W base y M') : y.ownBlock = none ∨ y.ownBlock ≠ x.ownBlock := by
  obtain ⟨_, ⟨h1, _⟩ | ⟨g, cap, cur, hv, _, hh, _⟩⟩ := hy
  · left; rw [h1]; rfl
  · right
    obtain ⟨_, ⟨k1, _⟩ | ⟨g', cap', cur', kv, _, kh, _⟩⟩ := hx
    · rw [hv, k1]; simp [Value.ownBlock]
    · rw [hv, kv]
      intro e
      simp only [Value.ownBlock, Option.some.injEq] at e
      subst e
      rw [hh] at kh
      simp at kh
theorem OwnE.far {W w' : World} {base : Nat} {x y : Value} {L M' : List M.En} (hx : OwnE 71 W base x L) (hy : OwnE 88 W base y M') (hg : W.grownBy w' x.ownBlock) : OwnE 88 w' base y M' :=
  World.ownsRow.kept hy hg (two_rows hx hy)
theorem OwnE.far' {W w' : World} {base : Nat} {x y : Value} {L M' : List M.En} (hx : OwnE 71 W base x L) (hy : OwnE 88 W base y M') (hg : W.grownBy w' y.ownBlock) : OwnE 71 w' base x L :=
  World.ownsRow.kept hx hg (by
    rcases two_rows hx hy with h | h
    · cases hx' : x.ownBlock with
      | none => exact .inl rfl
      | some k => rw [h]; exact .inr (by simp)
    · exact .inr (Ne.symm h))
theorem B3.bel {b : Nat} {w w' : World} {t : TypeId} {c0 c1 c2 : Value} (h : B3 w b t c0 c1 c2) (k : Bel w w') : B3 w' b t c0 c1 c2 := (k.block b (Array.getElem?_eq_some_iff.1 h).1).trans h
theorem B3.other {w : World} {b g j : Nat} {t : TypeId} {u c0 c1 c2 : Value} (h : B3 w b t c0 c1 c2) (hne : b ≠ g) : B3 (w.setCell ⟨g, j, none⟩ u) b t c0 c1 c2 := (Below.heap_setCell _ _ _ _ (by simpa using hne)).trans h
theorem B3.grown {b : Nat} {w w' : World} {t : TypeId} {row : Option Nat} {c0 c1 c2 : Value} (h : B3 w b t c0 c1 c2) (k : w.grownBy w' row) (hb : row ≠ some b) : B3 w' b t c0 c1 c2 := (k.block b (Array.getElem?_eq_some_iff.1 h).1 (fun e => hb e.symm)).trans h
end Go.Proofs.YtaepbmcmggnmpaaDoor
