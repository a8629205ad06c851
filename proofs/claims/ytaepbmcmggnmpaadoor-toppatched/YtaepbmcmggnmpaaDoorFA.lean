/-
  The contract of page.pageOf, walked, where it answers a page.
-/
import Derived.Test.YtaepbmcmggnmpaaDoorF
namespace Go.Proofs.YtaepbmcmggnmpaaDoor
open Go.RowKit

theorem rtext_ok (r : M.Rd) (n : Nat) (h : (M.rtext r n).2.2 = false) : r.2 = false ∧ n ≤ r.1.length ∧ (M.rtext r n).2.1.length + n = r.1.length := by
  unfold M.rtext at *
  split at h
  · cases h
  · rename_i hn
    rw [not_or] at hn
    rw [if_neg (by rw [not_or]; exact hn)]
    refine ⟨h, by omega, ?_⟩
    simp only [List.length_drop]; omega
theorem rnum_ok (r : M.Rd) (n : Nat) (h : (M.rnum r n).2.2 = false) : r.2 = false ∧ (M.rnum r n).2.1.length + n = r.1.length := ⟨(rtext_ok r n h).1, (rtext_ok r n h).2.2⟩
theorem rmark_ok (r : M.Rd) (m : Nat) (h : (M.rmark r m).2 = false) : r.2 = false := by
  unfold M.rmark at h
  split at h
  · cases h
  · exact h
theorem rmark_rest (r : M.Rd) (m : Nat) : (M.rmark r m).1 = r.1 := by unfold M.rmark; split <;> rfl
theorem rent_ok (r : M.Rd) (h : (M.rent r).2.2 = false) : r.2 = false ∧ (M.rent r).2.1.length + 3 ≤ r.1.length ∧ (M.rent r).1.1.length ≤ r.1.length ∧ (M.rent r).1.2.1.length ≤ r.1.length := by
  have h5 := rtext_ok _ _ h
  have h4 := rtext_ok _ _ h5.1
  have h3 := rnum_ok _ _ (rmark_ok _ _ h4.1)
  have h2 := rnum_ok _ _ h3.1
  have h1 := rnum_ok _ _ h2.1
  rw [rmark_rest] at h4
  have t4 := (rtext_len (M.rmark (M.rnum (M.rnum (M.rnum r 1).2 1).2 1).2 (M.rnum r 1).1) (M.rnum (M.rnum r 1).2 1).1).1
  have t5 := (rtext_len (M.rtext (M.rmark (M.rnum (M.rnum (M.rnum r 1).2 1).2 1).2 (M.rnum r 1).1) (M.rnum (M.rnum r 1).2 1).1).2 (M.rnum (M.rnum (M.rnum r 1).2 1).2 1).1).1
  refine ⟨h1.1, ?_, ?_, ?_⟩
  · show (M.rtext _ _).2.1.length + 3 ≤ _
    omega
  · show (M.rtext _ _).1.length ≤ _
    omega
  · show (M.rtext _ _).1.length ≤ _
    omega
theorem rents_ok : ∀ (n : Nat) (r : M.Rd) (acc : List M.En), (M.rents n r acc).2.2 = false → r.2 = false := by
  intro n
  induction n with
  | zero => intro r acc h; exact h
  | succ n ih =>
    intro r acc h
    by_cases hb : r.2 = true
    · simp only [M.rents, if_pos hb] at h; rw [hb] at h; cases h
    · simpa using hb
theorem B6.three {w : World} {b : Nat} {c0 c1 c2 c3 c4 c5 : Value} (h : B6 w b c0 c1 c2 c3 c4 c5) (x y z : Value) : B6 (((w.setCell ⟨b, 1, none⟩ x).setCell ⟨b, 2, none⟩ y).setCell ⟨b, 3, none⟩ z) b c0 x y z c4 c5 := by
  have h1 : B6 (w.setCell ⟨b, 1, none⟩ x) b c0 x c2 c3 c4 c5 := h.set 1 x
  have h2 : B6 ((w.setCell ⟨b, 1, none⟩ x).setCell ⟨b, 2, none⟩ y) b c0 x y c3 c4 c5 := h1.set 2 y
  exact h2.set 3 z
theorem B6.four {w : World} {b : Nat} {c0 c1 c2 c3 c4 c5 : Value} (h : B6 w b c0 c1 c2 c3 c4 c5) (x : Value) : B6 (w.setCell ⟨b, 4, none⟩ x) b c0 c1 c2 c3 x c5 := h.set 4 x
theorem B6.five {w : World} {b : Nat} {c0 c1 c2 c3 c4 c5 : Value} (h : B6 w b c0 c1 c2 c3 c4 c5) (x : Value) : B6 (w.setCell ⟨b, 5, none⟩ x) b c0 c1 c2 c3 c4 x := h.set 5 x
/-- A call of the reader's 'entry' at a step of a region that draws its order. -/
theorem stepE {ops : Array Oper} {o : Oper} {a : Act} {K : Act → World → Prop} {Q : Exit → Act → World → Prop} {E : Prop} {W : World} (hgd : o.guard = none) (t : Tmp)
    (ho : o.op = .call { callee := .value (.func 76), args := #[.tmp t], argTypes := #[131] }) (g : Nat) (hx : a.eval (.tmp t) = .pointer (some ⟨g, 0, none⟩)) {R : Ending → World → Prop}
    (H : Calls Tryd.prog 76 #[.pointer (some ⟨g, 0, none⟩)] W R) (h : ∀ e w', R e w' → ∃ v, e = .returned v ∧ K (a.put o.dst v) w') :
    if Region.wanted o (yielded ops a.tmps) = true then Oper.wp Tryd.prog o a W K Q else E := by
  have hw : Region.wanted o (yielded ops a.tmps) = true := by simp [Region.wanted, hgd]
  rw [if_pos hw]
  have hx' : a.tmps[t]?.getD undef = .pointer (some ⟨g, 0, none⟩) := by rw [← hx]; simp [Act.eval]
  obtain ⟨dst, op, type, pos, after, guard⟩ := o
  simp only at ho hgd h ⊢
  subst ho hgd
  go_simp
  refine H.mono ?_
  intro e w' hR
  obtain ⟨v, rfl, hv⟩ := h e w' hR
  exact hv
/-- A call of function 45 at a step of a region that draws its order. -/
theorem stepN {ops : Array Oper} {o : Oper} {a : Act} {K : Act → World → Prop} {Q : Exit → Act → World → Prop} {E : Prop} {W : World} (hw : Region.wanted o (yielded ops a.tmps) = true) (t : Tmp)
    (ho : o.op = .call { callee := .value (.func 45), args := #[.tmp t], argTypes := #[9] }) (x : Value) (hx : a.eval (.tmp t) = x) {R : Ending → World → Prop}
    (H : Calls Tryd.prog 45 #[x] W R) (h : ∀ e w', R e w' → ∃ v, e = .returned v ∧ K (a.put o.dst v) w') :
    if Region.wanted o (yielded ops a.tmps) = true then Oper.wp Tryd.prog o a W K Q else E := by
  rw [if_pos hw]
  have hx' : a.tmps[t]?.getD undef = x := by rw [← hx]; simp [Act.eval]
  clear hx hw
  obtain ⟨dst, op, type, pos, after, guard⟩ := o
  simp only at ho h ⊢
  subst ho
  go_simp
  refine H.mono ?_
  intro e w' hR
  obtain ⟨v, rfl, hv⟩ := h e w' hR
  exact hv
/-- A call of function 41 at a step of a region that draws its order. -/
theorem stepI {ops : Array Oper} {o : Oper} {a : Act} {K : Act → World → Prop} {Q : Exit → Act → World → Prop} {E : Prop} {W : World} (hw : Region.wanted o (yielded ops a.tmps) = true) (t : Tmp)
    (ho : o.op = .call { callee := .value (.func 41), args := #[.tmp t], argTypes := #[29] }) (x : Value) (hx : a.eval (.tmp t) = x) {R : Ending → World → Prop}
    (H : Calls Tryd.prog 41 #[x] W R) (h : ∀ e w', R e w' → ∃ v, e = .returned v ∧ K (a.put o.dst v) w') :
    if Region.wanted o (yielded ops a.tmps) = true then Oper.wp Tryd.prog o a W K Q else E := by
  rw [if_pos hw]
  have hx' : a.tmps[t]?.getD undef = x := by rw [← hx]; simp [Act.eval]
  clear hx hw
  obtain ⟨dst, op, type, pos, after, guard⟩ := o
  simp only at ho h ⊢
  subst ho
  go_simp
  refine H.mono ?_
  intro e w' hR
  obtain ⟨v, rfl, hv⟩ := h e w' hR
  exact hv
theorem B6.grown {b : Nat} {w w' : World} {row : Option Nat} {c0 c1 c2 c3 c4 c5 : Value} (h : B6 w b c0 c1 c2 c3 c4 c5) (k : w.grownBy w' row) (hb : row ≠ some b) : B6 w' b c0 c1 c2 c3 c4 c5 := (k.block b h.lt (fun e => hb e.symm)).trans h
theorem RdAt.grown {g : Nat} {w w' : World} {row : Option Nat} {r : M.Rd} (h : RdAt w g r) (k : w.grownBy w' row) (hb : row ≠ some g) : RdAt w' g r := (k.block g h.lt (fun e => hb e.symm)).trans h
def six (W : World) (b : Nat) (x0 x1 x2 x3 x4 x5 : Value) : World := (((((W.setCell ⟨b, 0, none⟩ x0).setCell ⟨b, 1, none⟩ x1).setCell ⟨b, 2, none⟩ x2).setCell ⟨b, 3, none⟩ x3).setCell ⟨b, 4, none⟩ x4).setCell ⟨b, 5, none⟩ x5
theorem B6.six {W : World} {b : Nat} {c0 c1 c2 c3 c4 c5 : Value} (h : B6 W b c0 c1 c2 c3 c4 c5) (x0 x1 x2 x3 x4 x5 : Value) : B6 (six W b x0 x1 x2 x3 x4 x5) b x0 x1 x2 x3 x4 x5 := by
  have h0 : B6 (W.setCell ⟨b, 0, none⟩ x0) b x0 c1 c2 c3 c4 c5 := h.set 0 x0
  have h1 : B6 ((W.setCell ⟨b, 0, none⟩ x0).setCell ⟨b, 1, none⟩ x1) b x0 x1 c2 c3 c4 c5 := h0.set 1 x1
  have h2 : B6 (((W.setCell ⟨b, 0, none⟩ x0).setCell ⟨b, 1, none⟩ x1).setCell ⟨b, 2, none⟩ x2) b x0 x1 x2 c3 c4 c5 := h1.set 2 x2
  have h3 : B6 ((((W.setCell ⟨b, 0, none⟩ x0).setCell ⟨b, 1, none⟩ x1).setCell ⟨b, 2, none⟩ x2).setCell ⟨b, 3, none⟩ x3) b x0 x1 x2 x3 c4 c5 := h2.set 3 x3
  have h4 : B6 (((((W.setCell ⟨b, 0, none⟩ x0).setCell ⟨b, 1, none⟩ x1).setCell ⟨b, 2, none⟩ x2).setCell ⟨b, 3, none⟩ x3).setCell ⟨b, 4, none⟩ x4) b x0 x1 x2 x3 x4 c5 := h3.set 4 x4
  exact h4.set 5 x5
theorem OwnE.six {e : TypeId} {b : Nat} {w : World} {base : Nat} {v : Value} {L : List M.En} (h : OwnE e w base v L) (hne : v.ownBlock ≠ some b) (x0 x1 x2 x3 x4 x5 : Value) : OwnE e (six w b x0 x1 x2 x3 x4 x5) base v L :=
  (((((h.set hne).set hne).set hne).set hne).set hne).set hne
theorem Bel.six {w w1 : World} (h : Bel w w1) {b : Nat} (hb : w.heap.size ≤ b) (x0 x1 x2 x3 x4 x5 : Value) : Bel w (six w1 b x0 x1 x2 x3 x4 x5) :=
  Below.setCell (Below.setCell (Below.setCell (Below.setCell (Below.setCell (Below.setCell h hb _) hb _) hb _) hb _) hb _) hb _
end Go.Proofs.YtaepbmcmggnmpaaDoor
