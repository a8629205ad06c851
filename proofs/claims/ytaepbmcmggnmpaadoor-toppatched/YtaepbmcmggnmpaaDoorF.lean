/-
  The contract of page.pageOf, walked.
-/
import Derived.Test.YtaepbmcmggnmpaaDoorD
import Derived.Deep.RegionLaw
import Derived.Deep.AppendLies
namespace Go.Proofs.YtaepbmcmggnmpaaDoor
open Go.RowKit
set_option maxRecDepth 100000

theorem Kp.grown {g : Nat} {w w' : World} (h : Kp g w w') : w.grownBy w' (some g) := ⟨h.os, h.tape, h.output, h.size, fun k hk hne => h.block k hk (fun e => hne (by rw [e]))⟩
/-- A block of six cells. -/
def B6 (w : World) (b : Nat) (c0 c1 c2 c3 c4 c5 : Value) : Prop := w.heap[b]? = some (.cells #[c0, c1, c2, c3, c4, c5] 29 (0, 0))
theorem B6.lt {w : World} {b : Nat} {c0 c1 c2 c3 c4 c5 : Value} (h : B6 w b c0 c1 c2 c3 c4 c5) : b < w.heap.size := (Array.getElem?_eq_some_iff.1 h).1
theorem B6.kp {g b : Nat} {w w' : World} {c0 c1 c2 c3 c4 c5 : Value} (h : B6 w b c0 c1 c2 c3 c4 c5) (k : Kp g w w') (hb : b ≠ g) : B6 w' b c0 c1 c2 c3 c4 c5 := (k.block b h.lt hb).trans h
theorem B6.bel {b : Nat} {w w' : World} {c0 c1 c2 c3 c4 c5 : Value} (h : B6 w b c0 c1 c2 c3 c4 c5) (k : Bel w w') : B6 w' b c0 c1 c2 c3 c4 c5 := (k.block b h.lt).trans h
theorem B6.cells {w : World} {b : Nat} {c0 c1 c2 c3 c4 c5 : Value} (h : B6 w b c0 c1 c2 c3 c4 c5) : w.cell? ⟨b, 0, none⟩ = some c0 ∧ w.cell? ⟨b, 1, none⟩ = some c1 ∧ w.cell? ⟨b, 2, none⟩ = some c2 ∧ w.cell? ⟨b, 3, none⟩ = some c3 ∧ w.cell? ⟨b, 4, none⟩ = some c4 ∧ w.cell? ⟨b, 5, none⟩ = some c5 := cells6_of h
theorem B6.froz {w : World} {b : Nat} {c0 c1 c2 c3 c4 c5 : Value} (h : B6 w b c0 c1 c2 c3 c4 c5) (j : Nat) : w.frozen? ⟨b, j, none⟩ = false := Lib.frozen_of_heap h j
theorem B6.set {w : World} {b : Nat} {c0 c1 c2 c3 c4 c5 : Value} (h : B6 w b c0 c1 c2 c3 c4 c5) (j : Nat) (u : Value) : (w.setCell ⟨b, j, none⟩ u).heap[b]? = some (.cells (#[c0, c1, c2, c3, c4, c5].setIfInBounds j u) 29 (0, 0)) := heap_setCell_same w b j _ 29 u h
theorem B6.other {w : World} {b g j : Nat} {u c0 c1 c2 c3 c4 c5 : Value} (h : B6 w b c0 c1 c2 c3 c4 c5) (hne : b ≠ g) : B6 (w.setCell ⟨g, j, none⟩ u) b c0 c1 c2 c3 c4 c5 := (Below.heap_setCell _ _ _ _ (by simpa using hne)).trans h
theorem RdAt.other {w : World} {g b j : Nat} {u : Value} {r : M.Rd} (h : RdAt w g r) (hne : g ≠ b) : RdAt (w.setCell ⟨b, j, none⟩ u) g r := (Below.heap_setCell _ _ _ _ (by simpa using hne)).trans h
/-- An entry's three cells. -/
def cells3 (v : M.En) : List Value := [.string (M.bs v.1), .string (M.bs v.2.1), .bool v.2.2]
theorem cells3_length (L : List M.En) : (L.flatMap cells3).length = L.length * 3 := by
  induction L with
  | nil => rfl
  | cons v L ih => simp [List.flatMap_cons, ih, cells3]; omega
theorem cells3_at : ∀ (L : List M.En) (j : Nat) (h : j < L.length), (L.flatMap cells3)[j * 3]? = some (.string (M.bs L[j].1)) ∧ (L.flatMap cells3)[j * 3 + 1]? = some (.string (M.bs L[j].2.1)) ∧ (L.flatMap cells3)[j * 3 + 2]? = some (.bool L[j].2.2)
  | v :: L, 0, _ => by simp [List.flatMap_cons, cells3]
  | v :: L, j + 1, h => by
    have := cells3_at L j (by simpa using h)
    simp only [List.flatMap_cons, cells3, List.cons_append, List.nil_append, List.getElem_cons_succ]
    rw [show (j + 1) * 3 = j * 3 + 1 + 1 + 1 by omega]
    simpa using this
/-- A slice of entries (of type e) that is the call's own holds L. -/
def OwnE (e : TypeId) (w : World) (base : Nat) (v : Value) (L : List M.En) : Prop := w.ownsRow base e 3 v L.length (L.flatMap cells3)
theorem OwnE.bel {e : TypeId} {w w' : World} {base : Nat} {v : Value} {L : List M.En} (h : OwnE e w base v L) (hb : Bel w w') : OwnE e w' base v L :=
  World.ownsRow.kept h (grown_of hb) (by cases v.ownBlock with | none => exact .inl rfl | some k => exact .inr (by simp))
theorem OwnE.al {e : TypeId} {w : World} {base : Nat} {v : Value} {L : List M.En} (h : OwnE e w base v L) (o : Obj) : OwnE e (w.alloc o) base v L := World.ownsRow.alloc h o
theorem OwnE.nil (e : TypeId) (w : World) (base : Nat) : OwnE e w base (.slice none 0 0) [] := World.ownsRow_nil _ _ _ _
/-- Its row is another block than one of another type. -/
theorem OwnE.ne {e t : TypeId} {w : World} {base b : Nat} {v : Value} {L : List M.En} {cs : Array Value} {fr : Nat × Nat} (h : OwnE e w base v L) (hb : w.heap[b]? = some (.cells cs t fr)) (ht : t ≠ e) : v.ownBlock ≠ some b := by
  obtain ⟨_, ⟨h1, _⟩ | ⟨g, cap, cur, hv, _, hh, _⟩⟩ := h
  · rw [h1]; simp [Value.ownBlock]
  · rw [hv]
    intro e
    simp only [Value.ownBlock, Option.some.injEq] at e
    subst e
    rw [hh] at hb
    simp at hb
    exact ht hb.2.1.symm
theorem OwnE.kp {e : TypeId} {g : Nat} {w w' : World} {base : Nat} {v : Value} {L : List M.En} (h : OwnE e w base v L) (k : Kp g w w') (hne : v.ownBlock ≠ some g) : OwnE e w' base v L := World.ownsRow.kept h k.grown (.inr hne)
theorem OwnE.set {e : TypeId} {b j : Nat} {u : Value} {w : World} {base : Nat} {v : Value} {L : List M.En} (h : OwnE e w base v L) (hne : v.ownBlock ≠ some b) : OwnE e (w.setCell ⟨b, j, none⟩ u) base v L :=
  World.ownsRow.kept (row := some b) h ⟨rfl, rfl, rfl, by simp [World.setCell], fun k _ hk => Below.heap_setCell _ _ _ _ (fun e => hk (by simp [e]))⟩ (.inr hne)
theorem OwnE.vals {e : TypeId} {w : World} {base : Nat} {v : Value} {L : List M.En} (h : OwnE e w base v L) : Vals w v L := by
  have h' := h
  obtain ⟨hlen, ⟨h1, h2⟩ | ⟨g, cap, cur, hv, hg, hh, hn, hm, hs, ht⟩⟩ := h
  · exact ⟨none, 0, by rw [h2]; exact h1, .inl (List.length_eq_zero_iff.1 h2)⟩
  · refine ⟨_, _, hv, .inr ⟨g, 0, rfl, fun j hj => ?_⟩⟩
    have hc := World.ownsRow.cells h' (g := g) (by rw [hv]; rfl)
    have ha : ∀ i, (⟨g, 0, none⟩ : Addr).add i = ⟨g, 0 + i, none⟩ := fun i => by unfold Addr.add; split <;> simp_all
    obtain ⟨k0, k1, k2⟩ := cells3_at L j hj
    refine ⟨?_, ?_, ?_⟩
    · rw [← ha]; exact hc _ _ k0
    · rw [Nat.add_assoc, ← ha]; exact hc _ _ k1
    · rw [Nat.add_assoc, ← ha]; exact hc _ _ k2
def Cells3 (W : World) (g : Nat) (e : M.En) : Prop := W.cell? ⟨g, 0, none⟩ = some (.string (M.bs e.1)) ∧ W.cell? ⟨g, 1, none⟩ = some (.string (M.bs e.2.1)) ∧ W.cell? ⟨g, 2, none⟩ = some (.bool e.2.2)
theorem Cells3.news {W : World} {g : Nat} {e : M.En} (h : Cells3 W g e) : ∀ j u, (cells3 e)[j]? = some u → W.cell? ((⟨g, 0, none⟩ : Addr).add j) = some u := by
  intro j u hu
  have ha : (⟨g, 0, none⟩ : Addr).add j = ⟨g, j, none⟩ := by unfold Addr.add; split <;> simp_all
  rw [ha]
  match j, hu with
  | 0, hu => simp [cells3] at hu; subst hu; exact h.1
  | 1, hu => simp [cells3] at hu; subst hu; exact h.2.1
  | 2, hu => simp [cells3] at hu; subst hu; exact h.2.2
/-- 'append(l, e)' at a step of a region that draws its order. -/
theorem appS71 {ops : Array Oper} {o : Oper} {a : Act} {K : Act → World → Prop} {Q : Exit → Act → World → Prop} {E : Prop} {W : World} (hgd : o.guard = none) (s x : Operand)
    (ho : o.op = .call { callee := .builtin .append, args := #[s, x], argTypes := #[27, 27] }) (base : Nat) (v : Value) (L : List M.En) (hs : a.eval s = v) (hown : OwnE 71 W base v L) (e : M.En)
    (g : Nat) (hx : a.eval x = .slice (some ⟨g, 0, none⟩) 1 1) (hc : Cells3 W g e) (hlen : L.length ≤ 100000) (hbase : base ≤ W.heap.size)
    (h : ∀ v' w', OwnE 71 w' base v' (L ++ [e]) → W.grownBy w' v.ownBlock → K (a.put o.dst v') w') :
    if Region.wanted o (yielded ops a.tmps) = true then Oper.wp Tryd.prog o a W K Q else E := by
  have hw : Region.wanted o (yielded ops a.tmps) = true := by simp [Region.wanted, hgd]
  rw [if_pos hw]
  obtain ⟨i0, hi, hz0, hz1, hz2⟩ := info_parts info71
  refine wp_append_own W s x 27 ho base 71 i0 _ 3 40 Tryd.underlying27 hi hz0 hz1 hz2 rfl (by decide) v L.length _ hs hown ⟨g, 0, none⟩ 1 1 (cells3 e) hx rfl hc.news ?_ (by unfold maxLen; omega) (by omega) hbase ?_
  · intro u hu; simp [cells3] at hu; rcases hu with rfl | rfl | rfl <;> rfl
  · intro v' w' h1 h2 _
    exact h v' w' (by unfold OwnE; simpa using h1) h2
end Go.Proofs.YtaepbmcmggnmpaaDoor
