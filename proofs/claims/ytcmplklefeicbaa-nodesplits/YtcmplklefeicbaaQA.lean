/-
  Two rows that are appended to, and two blocks into which what comes is stored: what stays as it was.
-/
import Derived.Test.YtcmplklefeicbaaQT
import Derived.Deep.AppendLies
namespace Go.Proofs.Ytcmplklefeicbaa
open Go.RowKit
set_option maxRecDepth 100000

/-- All old blocks but the two rows' are as they were. -/
structure Stays (base : Nat) (X Y : Value) (W2 W : World) : Prop where
  below : Below base W2 W
  block : ∀ i, i < W2.heap.size → some i ≠ X.ownBlock → some i ≠ Y.ownBlock → W.heap[i]? = W2.heap[i]?
theorem Stays.refl (base : Nat) (X Y : Value) (W : World) : Stays base X Y W W := ⟨Below.refl _ _, fun _ _ _ _ => rfl⟩
theorem Stays.dr {base : Nat} {X Y : Value} {W2 W : World} (h : Stays base X Y W2 W) : Stays base X Y W2 W.drew := ⟨h.below.trans ⟨rfl, rfl, rfl, Nat.le_refl _, fun _ _ => rfl⟩, h.block⟩
theorem Stays.al {base : Nat} {X Y : Value} {W2 W : World} (h : Stays base X Y W2 W) (hB : base ≤ W2.heap.size) (o : Obj) : Stays base X Y W2 (W.alloc o) :=
  ⟨h.below.alloc (by have := h.below.size; omega) o, fun i hi h1 h2 => (Below.heap_alloc _ _ _ (by have := h.below.size; omega)).trans (h.block i hi h1 h2)⟩
theorem Stays.app1 {base : Nat} {X Y : Value} {W2 W W' : World} (h : Stays base X Y W2 W) (hB : base ≤ W2.heap.size) (g : W.grownBy W' X.ownBlock) (hr : ∀ k, X.ownBlock = some k → base ≤ k) : Stays base X Y W2 W' :=
  ⟨h.below.grown g (by have := h.below.size; omega) hr, fun i hi h1 h2 => (g.block i (by have := h.below.size; omega) h1).trans (h.block i hi h1 h2)⟩
theorem Stays.app2 {base : Nat} {X Y : Value} {W2 W W' : World} (h : Stays base X Y W2 W) (hB : base ≤ W2.heap.size) (g : W.grownBy W' Y.ownBlock) (hr : ∀ k, Y.ownBlock = some k → base ≤ k) : Stays base X Y W2 W' :=
  ⟨h.below.grown g (by have := h.below.size; omega) hr, fun i hi h1 h2 => (g.block i (by have := h.below.size; omega) h2).trans (h.block i hi h1 h2)⟩
/-- What holds behind both stores. -/
structure Stored (base : Nat) (X Y : Value) (A B : Nat) (W2 W : World) : Prop where
  below : Below base W2 W
  block : ∀ i, i < W2.heap.size → some i ≠ X.ownBlock → some i ≠ Y.ownBlock → i ≠ A → i ≠ B → W.heap[i]? = W2.heap[i]?
theorem Stays.stored {base : Nat} {X Y : Value} {A B : Nat} {W2 W : World} (h : Stays base X Y W2 W) (hA : base ≤ A) (hB : base ≤ B) (i j : Nat) (u v : Value) : Stored base X Y A B W2 ((W.setCell ⟨A, i, none⟩ u).setCell ⟨B, j, none⟩ v) :=
  ⟨Below.setCell (Below.setCell h.below (p := ⟨A, i, none⟩) hA u) (p := ⟨B, j, none⟩) hB v, fun k hk h1 h2 h3 h4 => ((Below.heap_setCell _ _ _ _ (by simpa using h4)).trans (Below.heap_setCell _ _ _ _ (by simpa using h3))).trans (h.block k hk h1 h2)⟩
/-- The rows behind the stores. -/
theorem row_stored {base A B i j n k : Nat} {e : TypeId} {W : World} {v u1 u2 : Value} {xs : List Value} (h : W.ownsRow base e k v n xs) (h1 : some A ≠ v.ownBlock) (h2 : some B ≠ v.ownBlock) : ((W.setCell ⟨A, i, none⟩ u1).setCell ⟨B, j, none⟩ u2).ownsRow base e k v n xs := by
  refine ⟨h.1, ?_⟩
  rcases h.2 with hn | ⟨g, cap, cur, rfl, hb, hgg, rest⟩
  · exact .inl hn
  · simp [Value.ownBlock] at h1 h2
    refine .inr ⟨g, cap, cur, rfl, hb, ?_, rest⟩
    rw [Below.heap_setCell _ _ _ _ (by simpa using Ne.symm h2), Below.heap_setCell _ _ _ _ (by simpa using Ne.symm h1)]
    exact hgg
theorem block_first {A B i j : Nat} {W : World} {t : TypeId} {cs : Array Value} {u1 u2 : Value} (h : W.heap[A]? = some (.cells cs t (0, 0))) (hAB : A ≠ B) : ((W.setCell ⟨A, i, none⟩ u1).setCell ⟨B, j, none⟩ u2).heap[A]? = some (.cells (cs.setIfInBounds i u1) t (0, 0)) := by
  rw [Below.heap_setCell _ _ _ _ (by simpa using hAB)]
  exact heap_setCell_same W A i cs t u1 h
theorem block_second {A B i j : Nat} {W : World} {t : TypeId} {cs : Array Value} {u1 u2 : Value} (h : W.heap[B]? = some (.cells cs t (0, 0))) (hAB : A ≠ B) : ((W.setCell ⟨A, i, none⟩ u1).setCell ⟨B, j, none⟩ u2).heap[B]? = some (.cells (cs.setIfInBounds j u2) t (0, 0)) :=
  heap_setCell_same _ B j cs t u2 ((Below.heap_setCell _ _ _ _ (by simpa using Ne.symm hAB)).trans h)
theorem row_form {base n k : Nat} {e : TypeId} {W : World} {v : Value} {xs : List Value} (h : W.ownsRow base e k v n xs) : ∃ a cap, v = .slice a n cap := by
  rcases h.2 with ⟨rfl, rfl⟩ | ⟨g, cap, cur, rfl, _⟩
  · exact ⟨_, _, rfl⟩
  · exact ⟨_, _, rfl⟩
/-- A row's block is of the row's type. -/
theorem row_ne {base n k b : Nat} {e t : TypeId} {W : World} {v : Value} {xs : List Value} {cs : Array Value} {fz : Nat × Nat} (h : W.ownsRow base e k v n xs) (hb : W.heap[b]? = some (.cells cs t fz)) (ht : t ≠ e) : some b ≠ v.ownBlock := by
  intro hv
  rcases h.2 with ⟨rfl, _⟩ | ⟨g, cap, cur, rfl, _, hh, _⟩
  · simp [Value.ownBlock] at hv
  · simp [Value.ownBlock] at hv
    subst hv
    rw [hh] at hb
    simp at hb
    exact ht hb.2.1.symm
theorem rows_ne {base base' n n' k k' : Nat} {e e' : TypeId} {W : World} {v v' : Value} {xs xs' : List Value} (h : W.ownsRow base e k v n xs) (h' : W.ownsRow base' e' k' v' n' xs') (ht : e ≠ e') : v.ownBlock = none ∨ v.ownBlock ≠ v'.ownBlock := by
  rcases h.2 with ⟨rfl, _⟩ | ⟨g, cap, cur, rfl, _, hh, _⟩
  · exact .inl rfl
  · exact .inr (row_ne h' hh ht)
theorem row_grown {base base' n n' k k' : Nat} {e e' : TypeId} {W w' : World} {v v' : Value} {xs xs' : List Value} (g : W.grownBy w' v.ownBlock) (h : W.ownsRow base' e' k' v' n' xs') (h' : W.ownsRow base e k v n xs) (ht : e' ≠ e) : w'.ownsRow base' e' k' v' n' xs' :=
  World.ownsRow.kept h g (rows_ne h h' ht)
theorem news_of {W : World} {g : Nat} {cs : Array Value} {e : TypeId} {fz : Nat × Nat} (h : W.heap[g]? = some (.cells cs e fz)) : ∀ j u, cs.toList[j]? = some u → W.cell? ((⟨g, 0, none⟩ : Addr).add j) = some u := by
  intro j u hu
  have ha : (⟨g, 0, none⟩ : Addr).add j = ⟨g, j, none⟩ := by unfold Addr.add; split <;> simp_all
  rw [ha]
  simp only [World.cell?, h]
  simpa using hu
theorem cell_of {W : World} {g i : Nat} {cs : Array Value} {e : TypeId} {fz : Nat × Nat} {u : Value} (h : W.heap[g]? = some (.cells cs e fz)) (hu : cs[i]? = some u) : W.cell? ⟨g, i, none⟩ = some u := by
  simp only [World.cell?, h]
  simpa using hu
theorem heap_two (w : World) (o1 o2 : Obj) : ((w.alloc o1).alloc o2).heap[w.heap.size]? = some o1 ∧ ((w.alloc o1).alloc o2).heap[w.heap.size + 1]? = some o2 := by
  refine ⟨((Below.heap_alloc _ _ _ (by simp))).trans (heap_alloc_new w o1), ?_⟩
  have := heap_alloc_new (w.alloc o1) o2
  rw [World.size_alloc] at this
  exact this
/-- 'append' of one thing to a row of one's own, at a step of a region that draws its order. -/
theorem app_step {P : Program} {ops : Array Oper} {o : Oper} {a : Act} {K : Act → World → Prop} {Q : Exit → Act → World → Prop} {E : Prop} {W : World} (hgd : o.guard = none) (s x : Operand) (t : TypeId)
    (ho : o.op = .call { callee := .builtin .append, args := #[s, x], argTypes := #[t, t] }) (base : Nat) (e : TypeId) (z : Value) (k bytes : Nat) (ht : P.underlying t = some (.slice e)) (hi : (P.info? e).map (fun i => (i.zero, i.size, i.bytes)) = some (some z, k, bytes)) (hz : z.cells.size = k) (hk : 0 < k)
    (v : Value) (n : Nat) (xs : List Value) (hs : a.eval s = v) (hown : W.ownsRow base e k v n xs)
    (g : Nat) (cs : Array Value) (fz : Nat × Nat) (hx : a.eval x = .slice (some ⟨g, 0, none⟩) 1 1) (hc : W.heap[g]? = some (.cells cs e fz)) (hcs : cs.size = k) (h1 : ∀ u ∈ cs.toList, u.oneCell' = true) (hlen : n ≤ 100000) (hb : bytes ≤ 1000) (hbase : base ≤ W.heap.size)
    (h : ∀ v' w', w'.ownsRow base e k v' (n + 1) (xs ++ cs.toList) → W.grownBy w' v.ownBlock → K (a.put o.dst v') w') :
    if Region.wanted o (yielded ops a.tmps) = true then Oper.wp P o a W K Q else E := by
  have hw : Region.wanted o (yielded ops a.tmps) = true := by simp [Region.wanted, hgd]
  rw [if_pos hw]
  obtain ⟨i0, hi, hz0, hz1, hz2⟩ := info_parts hi
  refine wp_append_own W s x t ho base e i0 z k bytes ht hi hz0 hz1 hz2 hz hk v n xs hs hown ⟨g, 0, none⟩ 1 1 cs.toList hx (by simpa using hcs) (news_of hc) h1 (by unfold maxLen; omega) (Nat.le_trans (Nat.mul_le_mul (show n + 1 ≤ 100001 by omega) hb) (by omega)) hbase ?_
  intro v' w' g1 g2 _
  exact h v' w' g1 g2
end Go.Proofs.Ytcmplklefeicbaa
