/-
  Blocks of cells.
-/
import Derived.Test.YtcmplklefeicbaaW
import Derived.Great.BuildSlice
namespace Go.Proofs.Ytcmplklefeicbaa
open Go.RowKit
/-- Block B is cells. -/
def Blk (w : World) (B : Nat) (cs : Array Value) (t : TypeId) : Prop := w.heap[B]? = some (.cells cs t (0, 0))
theorem Blk.lt {w : World} {B : Nat} {cs : Array Value} {t : TypeId} (h : Blk w B cs t) : B < w.heap.size := (Array.getElem?_eq_some_iff.1 h).1
theorem Blk.cell {w : World} {B : Nat} {cs : Array Value} {t : TypeId} (h : Blk w B cs t) (j : Nat) : w.cell? ⟨B, j, none⟩ = cs[j]? := cell_of_row w B j cs t (0, 0) h
theorem Blk.frozen {w : World} {B : Nat} {cs : Array Value} {t : TypeId} (h : Blk w B cs t) (j : Nat) : w.frozen? ⟨B, j, none⟩ = false := by simp [World.frozen?, show w.heap[B]? = _ from h]
theorem Blk.new (w : World) (cs : Array Value) (t : TypeId) : Blk (w.alloc (.cells cs t)) w.heap.size cs t := heap_alloc_new w _
theorem Blk.al {w : World} {B : Nat} {cs : Array Value} {t : TypeId} (h : Blk w B cs t) (o : Obj) : Blk (w.alloc o) B cs t := (Below.heap_alloc w o B h.lt).trans h
theorem Blk.below {w w' : World} {n B : Nat} {cs : Array Value} {t : TypeId} (h : Blk w B cs t) (hb : Below n w w') (hB : B < n) : Blk w' B cs t := (hb.block B hB).trans h
theorem Blk.set {w : World} {B : Nat} {cs : Array Value} {t : TypeId} (h : Blk w B cs t) (j : Nat) (v : Value) : Blk (w.setCell ⟨B, j, none⟩ v) B (cs.setIfInBounds j v) t := by
  show (w.setCell ⟨B, j, none⟩ v).heap[B]? = _
  rw [setCell_eq_setRow w B j _ t (0, 0) _ h]
  exact setRow_heap w B _ _ t _ h
end Go.Proofs.Ytcmplklefeicbaa
