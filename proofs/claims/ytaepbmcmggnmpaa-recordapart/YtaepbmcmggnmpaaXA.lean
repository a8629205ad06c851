/-
  'append' of a piece at a step of a region that draws its order; rows of two types.
-/
import Derived.Test.YtaepbmcmggnmpaaH
import Derived.Deep.AppendLies
namespace Go.Proofs.Ytaepbmcmggnmpaa
open Go.RowKit
set_option maxRecDepth 100000

def Cells2 (W : World) (g : Nat) (n : Int) (t : List UInt8) : Prop := W.cell? ⟨g, 0, none⟩ = some (.int .i64 n) ∧ W.cell? ⟨g, 1, none⟩ = some (.string (M.bs t))
theorem Cells2.news {W : World} {g : Nat} {t : List UInt8} {n : Int} (h : Cells2 W g n t) : ∀ j u, (cells2 (n, t))[j]? = some u → W.cell? ((⟨g, 0, none⟩ : Addr).add j) = some u := by
  intro j u hu
  have ha : (⟨g, 0, none⟩ : Addr).add j = ⟨g, j, none⟩ := by unfold Addr.add; split <;> simp_all
  rw [ha]
  match j, hu with
  | 0, hu => simp [cells2] at hu; subst hu; exact h.1
  | 1, hu => simp [cells2] at hu; subst hu; exact h.2
/-- 'append(l, p)' at a step of a region that draws its order. -/
theorem appS48 {ops : Array Oper} {o : Oper} {a : Act} {K : Act → World → Prop} {Q : Exit → Act → World → Prop} {E : Prop} {W : World} (hgd : o.guard = none) (s x : Operand)
    (ho : o.op = .call { callee := .builtin .append, args := #[s, x], argTypes := #[58, 58] }) (base : Nat) (v : Value) (L : List M.Pc) (hs : a.eval s = v) (hown : OwnP 66 W base v L) (n : Int) (t : List UInt8)
    (g : Nat) (hx : a.eval x = .slice (some ⟨g, 0, none⟩) 1 1) (hc : Cells2 W g n t) (hlen : L.length ≤ 100000) (hbase : base ≤ W.heap.size)
    (h : ∀ v' w', OwnP 66 w' base v' (L ++ [(n, t)]) → W.grownBy w' v.ownBlock → K (a.put o.dst v') w') :
    if Region.wanted o (yielded ops a.tmps) = true then Oper.wp Try.prog o a W K Q else E := by
  have hw : Region.wanted o (yielded ops a.tmps) = true := by simp [Region.wanted, hgd]
  rw [if_pos hw]
  obtain ⟨i0, hi, hz0, hz1, hz2⟩ := info_parts info48
  refine wp_append_own W s x 58 ho base 66 i0 _ 2 24 Try.underlying58 hi hz0 hz1 hz2 rfl (by decide) v L.length _ hs hown ⟨g, 0, none⟩ 1 1 (cells2 (n, t)) hx rfl hc.news ?_ (by unfold maxLen; omega) (by omega) hbase ?_
  · intro u hu; simp [cells2] at hu; rcases hu with rfl | rfl <;> rfl
  · intro v' w' h1 h2 _
    exact h v' w' (by unfold OwnP; simpa using h1) h2
theorem appS50 {ops : Array Oper} {o : Oper} {a : Act} {K : Act → World → Prop} {Q : Exit → Act → World → Prop} {E : Prop} {W : World} (hgd : o.guard = none) (s x : Operand)
    (ho : o.op = .call { callee := .builtin .append, args := #[s, x], argTypes := #[61, 61] }) (base : Nat) (v : Value) (L : List M.Pc) (hs : a.eval s = v) (hown : OwnP 67 W base v L) (n : Int) (t : List UInt8)
    (g : Nat) (hx : a.eval x = .slice (some ⟨g, 0, none⟩) 1 1) (hc : Cells2 W g n t) (hlen : L.length ≤ 100000) (hbase : base ≤ W.heap.size)
    (h : ∀ v' w', OwnP 67 w' base v' (L ++ [(n, t)]) → W.grownBy w' v.ownBlock → K (a.put o.dst v') w') :
    if Region.wanted o (yielded ops a.tmps) = true then Oper.wp Try.prog o a W K Q else E := by
  have hw : Region.wanted o (yielded ops a.tmps) = true := by simp [Region.wanted, hgd]
  rw [if_pos hw]
  obtain ⟨i0, hi, hz0, hz1, hz2⟩ := info_parts info50
  refine wp_append_own W s x 61 ho base 67 i0 _ 2 24 Try.underlying61 hi hz0 hz1 hz2 rfl (by decide) v L.length _ hs hown ⟨g, 0, none⟩ 1 1 (cells2 (n, t)) hx rfl hc.news ?_ (by unfold maxLen; omega) (by omega) hbase ?_
  · intro u hu; simp [cells2] at hu; rcases hu with rfl | rfl <;> rfl
  · intro v' w' h1 h2 _
    exact h v' w' (by unfold OwnP; simpa using h1) h2
/-- Rows of two element types are two rows. -/
theorem two_rows {W : World} {base : Nat} {x y : Value} {L M' : List M.Pc} (hx : OwnP 66 W base x L) (hy : OwnP 67 W base y M') : y.ownBlock = none ∨ y.ownBlock ≠ x.ownBlock := by
  obtain ⟨_, ⟨h1, _⟩ | ⟨g, cap, cur, hv, _, hh, _⟩⟩ := hy
  · left; rw [h1]; rfl
  · right
    obtain ⟨_, ⟨k1, _⟩ | ⟨g', cap', cur', kv, _, kh, _⟩⟩ := hx
    · rw [hv, k1]; simp [Value.ownBlock]
    · rw [hv, kv]
      intro e
      simp only [Value.ownBlock, Option.some.injEq] at e
      subst e
      rw [hh] at kh
      simp at kh
theorem OwnP.far {W w' : World} {base : Nat} {x y : Value} {L M' : List M.Pc} (hx : OwnP 66 W base x L) (hy : OwnP 67 W base y M') (hg : W.grownBy w' x.ownBlock) : OwnP 67 w' base y M' :=
  World.ownsRow.kept hy hg (two_rows hx hy)
theorem OwnP.far' {W w' : World} {base : Nat} {x y : Value} {L M' : List M.Pc} (hx : OwnP 66 W base x L) (hy : OwnP 67 W base y M') (hg : W.grownBy w' y.ownBlock) : OwnP 66 w' base x L :=
  World.ownsRow.kept hx hg (by
    rcases two_rows hx hy with h | h
    · cases hx' : x.ownBlock with
      | none => exact .inl rfl
      | some k => rw [h]; exact .inr (by simp)
    · exact .inr (Ne.symm h))

end Go.Proofs.Ytaepbmcmggnmpaa
