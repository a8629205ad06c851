/-
  What stands behind two appends and two stores, one after the other.
-/
import Derived.Test.YtaepbmcmggnmpaaRC
namespace Go.Proofs.Ytaepbmcmggnmpaa
open Go.RowKit
set_option maxRecDepth 100000

theorem OwnP.ne {e t : TypeId} {w : World} {base b : Nat} {v : Value} {L : List M.Pc} {cs : Array Value} {fr : Nat × Nat} (h : OwnP e w base v L) (hb : w.heap[b]? = some (.cells cs t fr)) (ht : t ≠ e) : v.ownBlock ≠ some b := by
  obtain ⟨_, ⟨h1, _⟩ | ⟨g, cap, cur, hv, _, hh, _⟩⟩ := h
  · rw [h1]; simp [Value.ownBlock]
  · rw [hv]
    intro e
    simp only [Value.ownBlock, Option.some.injEq] at e
    subst e
    rw [hh] at hb
    simp at hb
    exact ht hb.2.1.symm
theorem OwnC.ne {e t : TypeId} {w : World} {base b : Nat} {v : Value} {L : List (M.Ch × Value)} {cs : Array Value} {fr : Nat × Nat} (h : OwnC e w base v L) (hb : w.heap[b]? = some (.cells cs t fr)) (ht : t ≠ e) : v.ownBlock ≠ some b := by
  obtain ⟨_, ⟨h1, _⟩ | ⟨g, cap, cur, hv, _, hh, _⟩⟩ := h
  · rw [h1]; simp [Value.ownBlock]
  · rw [hv]
    intro e
    simp only [Value.ownBlock, Option.some.injEq] at e
    subst e
    rw [hh] at hb
    simp at hb
    exact ht hb.2.1.symm
theorem B2.grown {t : TypeId} {b : Nat} {w w' : World} {row : Option Nat} {c0 c1 : Value} (h : B2 w b t c0 c1) (k : w.grownBy w' row) (hb : row ≠ some b) : B2 w' b t c0 c1 := (k.block b h.lt (fun e => hb e.symm)).trans h
theorem grown_below {B : Nat} {w w1 w' : World} {row : Option Nat} (h : Below B w w1) (hB : B ≤ w1.heap.size) (k : w1.grownBy w' row) (hr : ∀ j, row = some j → B ≤ j) : Below B w w' := h.grown k hB hr
/-- Behind the append to the first row. -/
theorem after_one {W1 W2 Wb w5 : World} {base cb db pb : Nat} {xv yv p0 p1 c0 d0 : Value} {K : List M.Pc} (hbase : base = W1.heap.size) (hb : Bel W2 Wb) (ox : OwnP 66 W2 base xv K) (oy : OwnP 67 W2 base yv K) (bc : B2 W2 cb 60 c0 xv) (bd : B2 W2 db 63 d0 yv) (e0 : B2 W2 pb 65 p0 p1) (bb : Bel W1 W2)
    (r5 : Wb.grownBy w5 xv.ownBlock) : OwnP 67 w5 base yv K ∧ B2 w5 cb 60 c0 xv ∧ B2 w5 db 63 d0 yv ∧ B2 w5 pb 65 p0 p1 ∧ Bel W1 w5 ∧ Wb.heap.size ≤ w5.heap.size := by
  subst hbase
  have oxb := ox.bel hb
  have oyb := oy.bel hb
  have z := bb.size
  have z2 := hb.size
  refine ⟨World.ownsRow.kept oyb r5 ?_, (bc.bel hb).grown r5 (oxb.ne (bc.bel hb) (by decide)), (bd.bel hb).grown r5 (oxb.ne (bd.bel hb) (by decide)), (e0.bel hb).grown r5 (oxb.ne (e0.bel hb) (by decide)), ?_, r5.size⟩
  · rcases two_rows oxb oyb with h | h
    · exact .inl h
    · exact .inr h
  · exact (bb.tr hb).grown r5 (by omega) (fun j hj => (World.ownsRow.lt oxb j hj).1)
/-- Behind the append to the second row. -/
theorem after_two {W1 w5 Wb w6 : World} {base cb db pb : Nat} {xv yv v1 p0 p1 c0 d0 : Value} {K K' : List M.Pc} (hbase : base = W1.heap.size) (hb : Bel w5 Wb) (ox : OwnP 66 w5 base v1 K') (oy : OwnP 67 w5 base yv K) (bc : B2 w5 cb 60 c0 xv) (bd : B2 w5 db 63 d0 yv) (e0 : B2 w5 pb 65 p0 p1) (bb : Bel W1 w5)
    (r6 : Wb.grownBy w6 yv.ownBlock) : OwnP 66 w6 base v1 K' ∧ B2 w6 cb 60 c0 xv ∧ B2 w6 db 63 d0 yv ∧ B2 w6 pb 65 p0 p1 ∧ Bel W1 w6 := by
  subst hbase
  have oxb := ox.bel hb
  have oyb := oy.bel hb
  have z := bb.size
  have z2 := hb.size
  refine ⟨?_, (bc.bel hb).grown r6 (oyb.ne (bc.bel hb) (by decide)), (bd.bel hb).grown r6 (oyb.ne (bd.bel hb) (by decide)), (e0.bel hb).grown r6 (oyb.ne (e0.bel hb) (by decide)), ?_⟩
  · exact OwnP.far' oxb oyb r6
  · exact (bb.tr hb).grown r6 (by omega) (fun j hj => (World.ownsRow.lt oyb j hj).1)
/-- Behind both stores. -/
theorem after_stores {W1 w6 : World} {base cb db : Nat} {xv yv v1 v2 c0 d0 : Value} {K1 K2 : List M.Pc} (hbase : base = W1.heap.size) (hcd : cb ≠ db) (hc : base ≤ cb) (hd : base ≤ db) (ox : OwnP 66 w6 base v1 K1) (oy : OwnP 67 w6 base v2 K2) (bc : B2 w6 cb 60 c0 xv) (bd : B2 w6 db 63 d0 yv) (bb : Bel W1 w6) :
    OwnP 66 ((w6.setCell ⟨cb, 1, none⟩ v1).setCell ⟨db, 1, none⟩ v2) base v1 K1 ∧ OwnP 67 ((w6.setCell ⟨cb, 1, none⟩ v1).setCell ⟨db, 1, none⟩ v2) base v2 K2 ∧ B2 ((w6.setCell ⟨cb, 1, none⟩ v1).setCell ⟨db, 1, none⟩ v2) cb 60 c0 v1 ∧ B2 ((w6.setCell ⟨cb, 1, none⟩ v1).setCell ⟨db, 1, none⟩ v2) db 63 d0 v2 ∧ Bel W1 ((w6.setCell ⟨cb, 1, none⟩ v1).setCell ⟨db, 1, none⟩ v2) := by
  subst hbase
  have bd' : B2 (w6.setCell ⟨cb, 1, none⟩ v1) db 63 d0 yv := bd.other (fun e => hcd e.symm)
  refine ⟨ox.kt ((KT.set bc (by decide)).tr (KT.set bd' (by decide))), oy.kt ((KT.set bc (by decide)).tr (KT.set bd' (by decide))), (bc.snd v1).other hcd, bd'.snd v2, ?_⟩
  exact Below.setCell (Below.setCell bb (p := ⟨cb, 1, none⟩) hc _) (p := ⟨db, 1, none⟩) hd _
end Go.Proofs.Ytaepbmcmggnmpaa
