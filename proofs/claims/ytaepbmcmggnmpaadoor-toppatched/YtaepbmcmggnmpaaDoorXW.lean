/-
  What the contracts of layer 6 (patch) say of the world: rows of pieces.
-/
import Derived.Test.YtaepbmcmggnmpaaDoorRows
import Derived.Test.YtaepbmcmggnmpaaDoorXP
import Derived.WalkLawsBesides
import Derived.WalkSpells
import Derived.Deep.RegionWith
import Derived.Deep.RegionHeld3
import Derived.Deep.QuietTactic
import Derived.BigQuiet
namespace Go.Proofs.YtaepbmcmggnmpaaDoor.Pt
open Go.RowKit
set_option maxRecDepth 100000

/-- Nothing that was there has turned. -/
abbrev Bel (w w' : World) : Prop := Below w.heap.size w w'
theorem Bel.al {w w1 : World} (h : Bel w w1) (o : Obj) : Bel w (w1.alloc o) := Below.alloc h h.size o
theorem Bel.dr {w w1 : World} (h : Bel w w1) : Bel w w1.drew := Below.drew h
theorem Bel.tr {w w1 w2 : World} (h : Bel w w1) (k : Bel w1 w2) : Bel w w2 := Below.trans h (Below.mono k h.size)
theorem bel_cell {W w' : World} (b : Bel W w') {g : Nat} (hg : g < W.heap.size) : ∀ o, w'.cell? ⟨g, o, none⟩ = W.cell? ⟨g, o, none⟩ := fun o => b.cell (p := ⟨g, o, none⟩) hg
theorem grown_of {w w' : World} (h : Bel w w') : w.grownBy w' none := ⟨h.os, h.tape, h.output, h.size, fun k hk _ => h.block k hk⟩
theorem hid {p : Prop} (h : p) : Hid p := h

theorem info113 : (Tryd.prog.info? 113).map (fun i => (i.zero, i.size, i.bytes)) = some (some (.agg #[.int .i64 0, .string ⟨#[]⟩]), 2, 24) := by kernel_rfl

/-- The cells from ⟨b, off⟩ on hold the pieces of L, two cells each. -/
def Row2 (w : World) (b off : Nat) (L : List M.Pc) : Prop := ∀ j (h : j < L.length),
  w.cell? ⟨b, off + j * 2, none⟩ = some (.int .i64 L[j].1) ∧ w.cell? ⟨b, off + j * 2 + 1, none⟩ = some (.string (M.bs L[j].2))
theorem Row2.lt {w : World} {b off : Nat} {L : List M.Pc} (h : Row2 w b off L) (hL : 0 < L.length) : b < w.heap.size := block_lt_of_cell (h 0 hL).1
theorem Row2.below {w w' : World} {b off B : Nat} {L : List M.Pc} (h : Row2 w b off L) (hb : Below B w w') (hB : b < B) : Row2 w' b off L := fun j hj =>
  ⟨(hb.cell (p := ⟨b, off + j * 2, none⟩) hB).trans (h j hj).1, (hb.cell (p := ⟨b, off + j * 2 + 1, none⟩) hB).trans (h j hj).2⟩
/-- A piece's two cells. -/
def cells2 (v : M.Pc) : List Value := [.int .i64 v.1, .string (M.bs v.2)]
theorem cells2_length (L : List M.Pc) : (L.flatMap cells2).length = L.length * 2 := by
  induction L with
  | nil => rfl
  | cons v L ih => simp [List.flatMap_cons, ih, cells2]; omega
theorem cells2_at : ∀ (L : List M.Pc) (j : Nat) (h : j < L.length), (L.flatMap cells2)[j * 2]? = some (.int .i64 L[j].1) ∧ (L.flatMap cells2)[j * 2 + 1]? = some (.string (M.bs L[j].2))
  | v :: L, 0, _ => by simp [List.flatMap_cons, cells2]
  | v :: L, j + 1, h => by
    have := cells2_at L j (by simpa using h)
    simp only [List.flatMap_cons, cells2, List.cons_append, List.nil_append, List.getElem_cons_succ]
    rw [show (j + 1) * 2 = j * 2 + 1 + 1 by omega]
    simpa using this

/-- A slice of pieces (of type e) that is the call's own holds L. -/
def OwnP (e : TypeId) (w : World) (base : Nat) (v : Value) (L : List M.Pc) : Prop := w.ownsRow base e 2 v L.length (L.flatMap cells2)
theorem OwnP.bel {e : TypeId} {w w' : World} {base : Nat} {v : Value} {L : List M.Pc} (h : OwnP e w base v L) (hb : Bel w w') : OwnP e w' base v L :=
  World.ownsRow.kept h (grown_of hb) (by cases v.ownBlock with | none => exact .inl rfl | some k => exact .inr (by simp))
theorem OwnP.al {e : TypeId} {w : World} {base : Nat} {v : Value} {L : List M.Pc} (h : OwnP e w base v L) (o : Obj) : OwnP e (w.alloc o) base v L := World.ownsRow.alloc h o
theorem OwnP.nil (e : TypeId) (w : World) (base : Nat) : OwnP e w base (.slice none 0 0) [] := World.ownsRow_nil _ _ _ _

/-- The cells that a slice value shows hold L. -/
def Vals (w : World) (x : Value) (L : List M.Pc) : Prop := ∃ a cap, x = .slice a L.length cap ∧ (L = [] ∨ ∃ b off, a = some ⟨b, off, none⟩ ∧ Row2 w b off L)
theorem OwnP.vals {e : TypeId} {w : World} {base : Nat} {v : Value} {L : List M.Pc} (h : OwnP e w base v L) : Vals w v L := by
  have h' := h
  obtain ⟨hlen, ⟨h1, h2⟩ | ⟨g, cap, cur, hv, hg, hh, hn, hm, hs, ht⟩⟩ := h
  · exact ⟨none, 0, by rw [h2]; exact h1, .inl (List.length_eq_zero_iff.1 h2)⟩
  · refine ⟨_, _, hv, .inr ⟨g, 0, rfl, fun j hj => ?_⟩⟩
    have hc := World.ownsRow.cells h' (g := g) (by rw [hv]; rfl)
    have ha : ∀ i, (⟨g, 0, none⟩ : Addr).add i = ⟨g, 0 + i, none⟩ := fun i => by unfold Addr.add; split <;> simp_all
    obtain ⟨k0, k1⟩ := cells2_at L j hj
    refine ⟨?_, ?_⟩
    · rw [← ha]; exact hc _ _ k0
    · rw [Nat.add_assoc, ← ha]; exact hc _ _ k1
theorem Vals.bel {w w' : World} {x : Value} {L : List M.Pc} (h : Vals w x L) (hb : Bel w w') : Vals w' x L := by
  obtain ⟨a, cap, hx, h | ⟨b, off, ha, hr⟩⟩ := h
  · exact ⟨a, cap, hx, .inl h⟩
  · by_cases hL : 0 < L.length
    · exact ⟨a, cap, hx, .inr ⟨b, off, ha, hr.below hb (hr.lt hL)⟩⟩
    · exact ⟨a, cap, hx, .inl (List.length_eq_zero_iff.1 (by omega))⟩
theorem Vals.nil (w : World) : Vals w (.slice none 0 0) [] := ⟨none, 0, rfl, .inl rfl⟩
theorem cell_two_at (w : World) (a b : Value) (t : TypeId) : ∀ j u, [a, b][j]? = some u → (w.alloc (.cells #[a, b] t)).cell? ((⟨w.heap.size, 0, none⟩ : Addr).add j) = some u := by
  intro j u h
  have ha : (⟨w.heap.size, 0, none⟩ : Addr).add j = ⟨w.heap.size, j, none⟩ := by unfold Addr.add; split <;> simp_all
  rw [ha, World.cell?_alloc_at (hn := rfl)]
  simpa using h

/-- 'append(l, p)' of one piece, l the call's own. -/
theorem app48 {ops : Array Oper} {rest : List Oper} {o : Oper} {a : Act} {Q : Exit → Act → World → Prop} {w : World} (hgd : o.guard = none) (s x : Operand)
    (ho : o.op = .call { callee := .builtin .append, args := #[s, x], argTypes := #[81, 81] }) (base : Nat) (v : Value) (L : List M.Pc) (hs : a.eval s = v) (hown : OwnP 113 w base v L) (n : Int) (t : List UInt8)
    (g : Nat) (hg : g = w.heap.size) (hx : a.eval x = .slice (some ⟨g, 0, none⟩) 1 1) (hlen : L.length ≤ 1000000) (hbase : base ≤ w.heap.size)
    (h : ∀ v' w', OwnP 113 w' base v' (L ++ [(n, t)]) → Below base w w' → wpList Tryd.prog ops Q rest (a.put o.dst v') w') :
    wpList Tryd.prog ops Q (o :: rest) a (w.alloc (.cells #[.int .i64 n, .string (M.bs t)] 113)) := by
  obtain ⟨i0, hi, hz0, hz1, hz2⟩ := info_parts info113
  subst hg
  refine wpList_append_own _ hgd s x 81 ho base 113 i0 _ 2 24 Tryd.underlying81 hi hz0 hz1 hz2 rfl (by decide) v L.length _ hs (World.ownsRow.alloc hown _) ⟨w.heap.size, 0, none⟩ 1 1 (cells2 (n, t)) hx rfl (cell_two_at _ _ _ _) ?_ (by unfold maxLen; omega) (by omega) (by simp; omega) ?_
  · intro u hu; simp [cells2] at hu; rcases hu with rfl | rfl <;> rfl
  · intro v' w' h1 h2 _
    refine h v' w' ?_ ?_
    · unfold OwnP; simpa using h1
    · refine ((Below.refl base w).alloc hbase _).grown h2 (by simp; omega) (fun k hk => ?_)
      exact (World.ownsRow.lt hown k hk).1
end Go.Proofs.YtaepbmcmggnmpaaDoor.Pt
