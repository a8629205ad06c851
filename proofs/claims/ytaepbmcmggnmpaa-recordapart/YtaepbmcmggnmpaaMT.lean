/-
  What the law's 'made' has behind a page: the rows, the pieces, the blocks that it leaves alone.
-/
import Derived.Test.YtaepbmcmggnmpaaMS
import Derived.Test.YtaepbmcmggnmpaaLP
namespace Go.Proofs.Ytaepbmcmggnmpaa
open Go.RowKit
set_option maxRecDepth 100000

theorem Stored.kt {tp eA eB tA tB : TypeId} {base A B nX nY kX kY : Nat} {X Y : Value} {xs ys : List Value} {csA csB : Array Value} {fA fB : Nat × Nat} {W2 W : World} (h : Stored base X Y A B W2 W) (ox : W2.ownsRow base eA kX X nX xs) (oy : W2.ownsRow base eB kY Y nY ys) (gA : W2.heap[A]? = some (.cells csA tA fA)) (gB : W2.heap[B]? = some (.cells csB tB fB)) (h1 : eA ≠ tp) (h2 : eB ≠ tp) (h3 : tA ≠ tp) (h4 : tB ≠ tp) : KT tp W2 W := by
  intro k cs fz e
  refine (h.block k (Array.getElem?_eq_some_iff.1 e).1 (row_ne ox e (Ne.symm h1)) (row_ne oy e (Ne.symm h2)) ?_ ?_).trans e
  · rintro rfl; rw [gA] at e; simp at e; exact h3 e.2.1
  · rintro rfl; rw [gB] at e; simp at e; exact h4 e.2.1
theorem Stored.bt {t eA eB : TypeId} {base A B nX nY kX kY b : Nat} {X Y : Value} {xs ys : List Value} {c0 c1 c2 c3 c4 c5 : Value} {W2 W : World} (h : Stored base X Y A B W2 W) (ox : W2.ownsRow base eA kX X nX xs) (oy : W2.ownsRow base eB kY Y nY ys) (g : Bt t W2 b c0 c1 c2 c3 c4 c5) (h1 : t ≠ eA) (h2 : t ≠ eB) (h3 : b ≠ A) (h4 : b ≠ B) : Bt t W b c0 c1 c2 c3 c4 c5 :=
  (h.block b g.lt (row_ne ox g h1) (row_ne oy g h2) h3 h4).trans g
theorem glueX {e tp : TypeId} {base base' n : Nat} {ao : Option Addr} {cp : Nat} {wr wx : World} {Qx : List (M.Ch × Value)} {PL : List M.Pc} {pn : Int} {v : Value} (ho : wx.ownsRow base e 2 (.slice ao (n + 1) cp) (n + 1) (Qx.flatMap cellsC ++ [.int .i64 pn, v])) (hn : n = Qx.length) (ax : AllP tp wr base Qx) (hox : OwnP tp wr base' v PL) (hb : base ≤ base') (kt : KT tp wr wx) :
    OwnC e wx base (.slice ao (Qx ++ [((pn, PL), v)]).length cp) (Qx ++ [((pn, PL), v)]) ∧ AllP tp wx base (Qx ++ [((pn, PL), v)]) := by
  subst hn
  refine ⟨?_, ?_⟩
  · unfold OwnC
    simpa [cellsC] using ho
  · intro q hq
    rcases List.mem_append.1 hq with hq | hq
    · exact (ax q hq).kt kt
    · simp at hq; subst hq
      exact (hox.low hb).kt kt
end Go.Proofs.Ytaepbmcmggnmpaa
