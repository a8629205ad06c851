/-
  The record of bytes, as a function; rows of pages; the contract of record's changed, walked.
-/
import Derived.Test.YtaepbmcmggnmpaaPA
namespace Go.Proofs.Ytaepbmcmggnmpaa
open Go.RowKit
set_option maxRecDepth 100000
namespace M
def chg (r : Rd) : Ch × Nat × Rd := if (rnum r 2).2.2 = true then ((0, []), 3, (rnum r 2).2)
  else if (getP (rnum r 2).2.1).2.2 ≠ 0 then ((0, []), (getP (rnum r 2).2.1).2.2, (rnum r 2).2)
  else (((rnum r 2).1, (getP (rnum r 2).2.1).1), 0, (rtext (rnum r 2).2 (getP (rnum r 2).2.1).2.1).2)
def pgs : Nat → Rd → List Ch → List Ch × Nat × Rd
  | 0, r, acc => (acc, 0, r)
  | n + 1, r, acc => if (chg r).2.1 ≠ 0 then ([], (chg r).2.1, r) else pgs n (chg r).2.2 (acc ++ [(chg r).1])
theorem pgs_step (n : Nat) (r : Rd) (acc : List Ch) : pgs (n + 1) r acc = if (chg r).2.1 ≠ 0 then ([], (chg r).2.1, r) else pgs n (chg r).2.2 (acc ++ [(chg r).1]) := rfl
def zeroR : Rec := ⟨0, 0, 0, [], 0, []⟩
/-- What is read of a record: its numbers and its text, how many pages, what is left. -/
def hd1 (s : List UInt8) : Nat × Rd := rnum (s, false) 6
def hd2 (s : List UInt8) : Nat × Rd := rnum (hd1 s).2 6
def hd3 (s : List UInt8) : Nat × Rd := rnum (hd2 s).2 1
def hd4 (s : List UInt8) : List UInt8 × Rd := unf (hd3 s).2
def hd5 (s : List UInt8) : Nat × Rd := rnum (hd4 s).2 2
def hd6 (s : List UInt8) : Nat × Rd := rnum (hd5 s).2 1
def pgsOf (s : List UInt8) : List Ch × Nat × Rd := pgs (hd6 s).1 (hd6 s).2 []
def getR (s : List UInt8) : Rec × Nat := if 16384 < s.length then (zeroR, 6) else
  if (pgsOf s).2.1 ≠ 0 then (zeroR, (pgsOf s).2.1)
  else if (pgsOf s).2.2.2 = true then (zeroR, 3)
  else if (pgsOf s).2.2.1 ≠ [] then (zeroR, 4)
  else if btw 1 (hd3 s).1 4 = true then (⟨(hd1 s).1, (hd2 s).1, (hd3 s).1, (hd4 s).1, (hd5 s).1, (pgsOf s).1⟩, 0) else (zeroR, 2)
theorem chg_len (r : Rd) (h : (chg r).2.1 = 0) : (chg r).2.2.1.length + 4 ≤ r.1.length ∧ (rnum r 2).2.2 = false ∧ (getP (rnum r 2).2.1).2.2 = 0 := by
  unfold chg at *
  split at h
  · simp at h
  · rename_i h1
    split at h
    · rename_i h2; exact absurd h h2
    · rename_i h2
      rw [if_neg h1, if_neg h2]
      rw [Bool.not_eq_true] at h1
      obtain ⟨g1, A, a1, a2, a3⟩ := rnum_back r 2 (by omega) h1
      have h3 : (getP (rnum r 2).2.1).2.2 = 0 := by simpa using h2
      obtain ⟨p1, p2, p3, p4⟩ := putP_getP (rnum r 2).2.1 (getP (rnum r 2).2.1).1 (getP (rnum r 2).2.1).2.1 (by rw [← h3])
      have hl : r.1.length = 2 + (rnum r 2).2.1.length := by rw [a2, List.length_append, a1]
      have hp : 2 ≤ (getP (rnum r 2).2.1).2.1 := by
        have := congrArg List.length p1
        rw [List.length_take] at this
        have h5 : 2 ≤ (putP (getP (rnum r 2).2.1).1).length := by
          unfold putP
          rw [if_pos ⟨p3, p4⟩, List.length_append, put_two_len _ (by omega) (by omega)]; omega
        omega
      refine ⟨?_, h1, h3⟩
      simp only [rtext]
      rw [if_neg (by rintro (h | h); rw [h1] at h; cases h; omega)]
      simp only [List.length_drop]
      omega
end M
/-- All blocks of the type tp are as they were. -/
def KT (tp : TypeId) (w w' : World) : Prop := ∀ (k : Nat) (cs : Array Value) (fz : Nat × Nat), w.heap[k]? = some (Obj.cells cs tp fz) → w'.heap[k]? = some (Obj.cells cs tp fz)
theorem KT.refl (tp : TypeId) (w : World) : KT tp w w := fun _ _ _ h => h
theorem KT.tr {tp : TypeId} {a b c : World} (h : KT tp a b) (k : KT tp b c) : KT tp a c := fun i cs fz e => k i cs fz (h i cs fz e)
theorem KT.of_bel {tp : TypeId} {w w' : World} (h : Bel w w') : KT tp w w' := fun k _ _ e => (h.block k (Array.getElem?_eq_some_iff.1 e).1).trans e
theorem KT.of_kp {tp t : TypeId} {g : Nat} {w w' : World} {cs0 : Array Value} {fz0 : Nat × Nat} (h : Kp g w w') (hg : w.heap[g]? = some (.cells cs0 t fz0)) (ht : t ≠ tp) : KT tp w w' := fun k cs fz e =>
  (h.block k (Array.getElem?_eq_some_iff.1 e).1 (fun hk => by rw [hk, hg] at e; simp at e; exact ht e.2.1)).trans e
theorem KT.of_grown {tp t : TypeId} {g : Nat} {w w' : World} {cs0 : Array Value} {fz0 : Nat × Nat} (h : w.grownBy w' (some g)) (hg : w.heap[g]? = some (.cells cs0 t fz0)) (ht : t ≠ tp) : KT tp w w' := fun k cs fz e =>
  (h.block k (Array.getElem?_eq_some_iff.1 e).1 (fun hk => by simp at hk; rw [hk, hg] at e; simp at e; exact ht e.2.1)).trans e
theorem KT.set {tp t : TypeId} {g o : Nat} {w : World} {u : Value} {cs0 : Array Value} {fz0 : Nat × Nat} (hg : w.heap[g]? = some (.cells cs0 t fz0)) (ht : t ≠ tp) : KT tp w (w.setCell ⟨g, o, none⟩ u) := KT.of_kp (Kp.set g o w u) hg ht
theorem OwnP.kt {tp : TypeId} {w w' : World} {base : Nat} {v : Value} {L : List M.Pc} (h : OwnP tp w base v L) (k : KT tp w w') : OwnP tp w' base v L := by
  obtain ⟨hlen, h | ⟨g, cap, cur, hv, hg, hh, rest⟩⟩ := h
  · exact ⟨hlen, .inl h⟩
  · exact ⟨hlen, .inr ⟨g, cap, cur, hv, hg, k _ _ _ hh, rest⟩⟩
theorem OwnP.low {tp : TypeId} {w : World} {base base' : Nat} {v : Value} {L : List M.Pc} (h : OwnP tp w base v L) (hb : base' ≤ base) : OwnP tp w base' v L := by
  obtain ⟨hlen, h | ⟨g, cap, cur, hv, hg, rest⟩⟩ := h
  · exact ⟨hlen, .inl h⟩
  · exact ⟨hlen, .inr ⟨g, cap, cur, hv, Nat.le_trans hb hg, rest⟩⟩
/-- Pages with the slices that hold their pieces. -/
def cellsC (q : M.Ch × Value) : List Value := [.int .i64 q.1.1, q.2]
theorem cellsC_at : ∀ (Q : List (M.Ch × Value)) (j : Nat) (h : j < Q.length), (Q.flatMap cellsC)[j * 2]? = some (.int .i64 Q[j].1.1) ∧ (Q.flatMap cellsC)[j * 2 + 1]? = some Q[j].2
  | v :: L, 0, _ => by simp [List.flatMap_cons, cellsC]
  | v :: L, j + 1, h => by
    have := cellsC_at L j (by simpa using h)
    simp only [List.flatMap_cons, cellsC, List.cons_append, List.nil_append, List.getElem_cons_succ]
    rw [show (j + 1) * 2 = j * 2 + 1 + 1 by omega]
    simpa using this
/-- The row of a slice of pages (of type e) that is the call's own. -/
def OwnC (e : TypeId) (w : World) (base : Nat) (v : Value) (Q : List (M.Ch × Value)) : Prop := w.ownsRow base e 2 v Q.length (Q.flatMap cellsC)
/-- Each page's pieces (of type tp) are the call's own. -/
def AllP (tp : TypeId) (w : World) (base : Nat) (Q : List (M.Ch × Value)) : Prop := ∀ q ∈ Q, OwnP tp w base q.2 q.1.2
theorem AllP.kt {tp : TypeId} {w w' : World} {base : Nat} {Q : List (M.Ch × Value)} (h : AllP tp w base Q) (k : KT tp w w') : AllP tp w' base Q := fun q hq => (h q hq).kt k
theorem OwnC.bel {e : TypeId} {w w' : World} {base : Nat} {v : Value} {Q : List (M.Ch × Value)} (h : OwnC e w base v Q) (hb : Bel w w') : OwnC e w' base v Q :=
  World.ownsRow.kept h (grown_of hb) (by cases v.ownBlock with | none => exact .inl rfl | some k => exact .inr (by simp))
theorem OwnC.kp {e : TypeId} {w w' : World} {g base : Nat} {v : Value} {Q : List (M.Ch × Value)} (h : OwnC e w base v Q) (k : Kp g w w') (hg : g < base) : OwnC e w' base v Q :=
  World.ownsRow.kept h k.grown (.inr fun e => by have := (World.ownsRow.lt h g e).1; omega)
theorem OwnC.nil (e : TypeId) (w : World) (base : Nat) : OwnC e w base (.slice none 0 0) [] := World.ownsRow_nil _ _ _ _
theorem OwnC.low {e : TypeId} {w : World} {base base' : Nat} {v : Value} {Q : List (M.Ch × Value)} (h : OwnC e w base v Q) (hb : base' ≤ base) : OwnC e w base' v Q := by
  obtain ⟨hlen, h | ⟨g, cap, cur, hv, hg, rest⟩⟩ := h
  · exact ⟨hlen, .inl h⟩
  · exact ⟨hlen, .inr ⟨g, cap, cur, hv, Nat.le_trans hb hg, rest⟩⟩
theorem OwnC.form {e : TypeId} {w : World} {base : Nat} {v : Value} {Q : List (M.Ch × Value)} (h : OwnC e w base v Q) : ∃ a cap, v = .slice a Q.length cap := by
  obtain ⟨hlen, ⟨h1, h2⟩ | ⟨g, cap, cur, hv, _⟩⟩ := h
  · exact ⟨none, 0, by rw [h2]; exact h1⟩
  · exact ⟨_, _, hv⟩
theorem OwnC.vals {e tp : TypeId} {w : World} {base : Nat} {v : Value} {Q : List (M.Ch × Value)} (h : OwnC e w base v Q) (ha : AllP tp w base Q) : ValC w v (Q.map (·.1)) := by
  have h' := h
  obtain ⟨hlen, ⟨h1, h2⟩ | ⟨g, cap, cur, hv, hg, hh, hn, hm, hs, ht⟩⟩ := h
  · have : Q = [] := List.length_eq_zero_iff.1 h2
    subst this
    exact ⟨none, 0, h1, .inl rfl⟩
  · refine ⟨some ⟨g, 0, none⟩, cap, by rw [List.length_map]; exact hv, .inr ⟨g, 0, rfl, fun j hj => ?_⟩⟩
    rw [List.length_map] at hj
    have hc := World.ownsRow.cells h' (g := g) (by rw [hv]; rfl)
    have hadd : ∀ i, (⟨g, 0, none⟩ : Addr).add i = ⟨g, 0 + i, none⟩ := fun i => by unfold Addr.add; split <;> simp_all
    obtain ⟨k0, k1⟩ := cellsC_at Q j hj
    refine ⟨Q[j].2, ?_, ?_, ?_⟩
    · rw [← hadd, List.getElem_map]; exact hc _ _ k0
    · rw [Nat.add_assoc, ← hadd]; exact hc _ _ k1
    · rw [List.getElem_map]; exact (ha Q[j] (List.getElem_mem hj)).vals
theorem info60 : (Try.prog.info? 60).map (fun i => (i.zero, i.size, i.bytes)) = some (some (.agg #[.int .i64 0, .slice none 0 0]), 2, 32) := by kernel_rfl
/-- 'append(l, c)' of one page, l the call's own. -/
theorem app60 {ops : Array Oper} {rest : List Oper} {o : Oper} {a : Act} {Q : Exit → Act → World → Prop} {w : World} (hgd : o.guard = none) (s x : Operand)
    (ho : o.op = .call { callee := .builtin .append, args := #[s, x], argTypes := #[27, 27] }) (base : Nat) (v : Value) (L : List (M.Ch × Value)) (hs : a.eval s = v) (hown : OwnC 60 w base v L) (n : Int) (pl : List M.Pc) (xa : Option Addr) (xn xc : Nat)
    (g : Nat) (hg : g = w.heap.size) (hx : a.eval x = .slice (some ⟨g, 0, none⟩) 1 1) (hlen : L.length ≤ 1000000) (hbase : base ≤ w.heap.size)
    (h : ∀ v' w', OwnC 60 w' base v' (L ++ [((n, pl), .slice xa xn xc)]) → Below base w w' → KT 66 w w' → wpList Try.prog ops Q rest (a.put o.dst v') w') :
    wpList Try.prog ops Q (o :: rest) a (w.alloc (.cells #[.int .i64 n, .slice xa xn xc] 60)) := by
  obtain ⟨i0, hi, hz0, hz1, hz2⟩ := info_parts info60
  subst hg
  refine wpList_append_own _ hgd s x 27 ho base 60 i0 _ 2 32 Try.underlying27 hi hz0 hz1 hz2 rfl (by decide) v L.length _ hs (World.ownsRow.alloc hown _) ⟨w.heap.size, 0, none⟩ 1 1 [.int .i64 n, .slice xa xn xc] hx rfl (cell_two_at _ _ _ _) ?_ (by unfold maxLen; omega) (by omega) (by simp; omega) ?_
  · intro u hu; simp at hu; rcases hu with rfl | rfl <;> rfl
  · intro v' w' h1 h2 _
    refine h v' w' ?_ ?_ ?_
    · unfold OwnC; simpa [cellsC] using h1
    · refine ((Below.refl base w).alloc hbase _).grown h2 (by simp; omega) (fun k hk => ?_)
      exact (World.ownsRow.lt hown k hk).1
    · refine (KT.of_bel (Bel.al (Below.refl _ w) (.cells #[.int .i64 n, .slice xa xn xc] 60))).tr ?_
      obtain ⟨_, ⟨k1, _⟩ | ⟨g', cap', cur', kv, _, kh, _⟩⟩ := World.ownsRow.alloc hown (.cells #[.int .i64 n, .slice xa xn xc] 60)
      · intro k cs fz e
        rw [k1] at h2
        exact (h2.block k (Array.getElem?_eq_some_iff.1 e).1 (by simp [Value.ownBlock])).trans e
      · have : v.ownBlock = some g' := by rw [kv]; rfl
        rw [this] at h2
        exact KT.of_grown h2 kh (by decide)
end Go.Proofs.Ytaepbmcmggnmpaa
