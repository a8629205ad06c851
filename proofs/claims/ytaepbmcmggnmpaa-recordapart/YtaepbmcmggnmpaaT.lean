/-
  Rows of texts; the contracts of record's framed, unframed and Split, walked.
-/
import Derived.Test.YtaepbmcmggnmpaaS
namespace Go.Proofs.Ytaepbmcmggnmpaa
open Go.RowKit
set_option maxRecDepth 100000

theorem info9 : (Try.prog.info? 9).map (fun i => (i.zero, i.size, i.bytes)) = some (some (.string ⟨#[]⟩), 1, 16) := by kernel_rfl
/-- The cells from ⟨b, off⟩ on hold the texts of L. -/
def Row1 (w : World) (b off : Nat) (L : List (List UInt8)) : Prop := ∀ j (h : j < L.length), w.cell? ⟨b, off + j, none⟩ = some (.string (M.bs L[j]))
theorem Row1.lt {w : World} {b off : Nat} {L : List (List UInt8)} (h : Row1 w b off L) (hL : 0 < L.length) : b < w.heap.size := block_lt_of_cell (h 0 hL)
theorem Row1.below {w w' : World} {b off B : Nat} {L : List (List UInt8)} (h : Row1 w b off L) (hb : Below B w w') (hB : b < B) : Row1 w' b off L := fun j hj =>
  (hb.cell (p := ⟨b, off + j, none⟩) hB).trans (h j hj)
def cell1 (t : List UInt8) : List Value := [.string (M.bs t)]
theorem cells1_length (L : List (List UInt8)) : (L.flatMap cell1).length = L.length := by
  induction L with
  | nil => rfl
  | cons v L ih => simp [List.flatMap_cons, ih, cell1]
theorem cells1_at : ∀ (L : List (List UInt8)) (j : Nat) (h : j < L.length), (L.flatMap cell1)[j]? = some (.string (M.bs L[j]))
  | v :: L, 0, _ => by simp [List.flatMap_cons, cell1]
  | v :: L, j + 1, h => by
    have := cells1_at L j (by simpa using h)
    simp only [List.flatMap_cons, cell1, List.cons_append, List.nil_append, List.getElem_cons_succ]
    simpa using this
/-- A slice of texts that is the call's own holds L. -/
def OwnT (w : World) (base : Nat) (v : Value) (L : List (List UInt8)) : Prop := w.ownsRow base 9 1 v L.length (L.flatMap cell1)
theorem OwnT.bel {w w' : World} {base : Nat} {v : Value} {L : List (List UInt8)} (h : OwnT w base v L) (hb : Bel w w') : OwnT w' base v L :=
  World.ownsRow.kept h (grown_of hb) (by cases v.ownBlock with | none => exact .inl rfl | some k => exact .inr (by simp))
theorem OwnT.al {w : World} {base : Nat} {v : Value} {L : List (List UInt8)} (h : OwnT w base v L) (o : Obj) : OwnT (w.alloc o) base v L := World.ownsRow.alloc h o
theorem OwnT.nil (w : World) (base : Nat) : OwnT w base (.slice none 0 0) [] := World.ownsRow_nil _ _ _ _
theorem Kp.grown {g : Nat} {w w' : World} (h : Kp g w w') : w.grownBy w' (some g) := ⟨h.os, h.tape, h.output, h.size, fun k hk hne => h.block k hk (fun e => hne (by rw [e]))⟩
theorem OwnT.kp {w w' : World} {g base : Nat} {v : Value} {L : List (List UInt8)} (h : OwnT w base v L) (k : Kp g w w') (hg : g < base) : OwnT w' base v L :=
  World.ownsRow.kept h k.grown (.inr fun e => by have := (World.ownsRow.lt h g e).1; omega)
theorem OwnT.low {w : World} {base base' : Nat} {v : Value} {L : List (List UInt8)} (h : OwnT w base v L) (hb : base' ≤ base) : OwnT w base' v L := by
  obtain ⟨hlen, h | ⟨g, cap, cur, hv, hg, rest⟩⟩ := h
  · exact ⟨hlen, .inl h⟩
  · exact ⟨hlen, .inr ⟨g, cap, cur, hv, Nat.le_trans hb hg, rest⟩⟩
/-- The cells that a slice of texts shows hold L. -/
def ValT (w : World) (x : Value) (L : List (List UInt8)) : Prop := ∃ a cap, x = .slice a L.length cap ∧ (L = [] ∨ ∃ b off, a = some ⟨b, off, none⟩ ∧ Row1 w b off L)
theorem OwnT.vals {w : World} {base : Nat} {v : Value} {L : List (List UInt8)} (h : OwnT w base v L) : ValT w v L := by
  have h' := h
  obtain ⟨hlen, ⟨h1, h2⟩ | ⟨g, cap, cur, hv, hg, hh, hn, hm, hs, ht⟩⟩ := h
  · exact ⟨none, 0, by rw [h2]; exact h1, .inl (List.length_eq_zero_iff.1 h2)⟩
  · refine ⟨_, _, hv, .inr ⟨g, 0, rfl, fun j hj => ?_⟩⟩
    have hc := World.ownsRow.cells h' (g := g) (by rw [hv]; rfl)
    have ha : ∀ i, (⟨g, 0, none⟩ : Addr).add i = ⟨g, 0 + i, none⟩ := fun i => by unfold Addr.add; split <;> simp_all
    rw [← ha]; exact hc _ _ (cells1_at L j hj)
theorem ValT.bel {w w' : World} {x : Value} {L : List (List UInt8)} (h : ValT w x L) (hb : Bel w w') : ValT w' x L := by
  obtain ⟨a, cap, hx, h | ⟨b, off, ha, hr⟩⟩ := h
  · exact ⟨a, cap, hx, .inl h⟩
  · by_cases hL : 0 < L.length
    · exact ⟨a, cap, hx, .inr ⟨b, off, ha, hr.below hb (hr.lt hL)⟩⟩
    · exact ⟨a, cap, hx, .inl (List.length_eq_zero_iff.1 (by omega))⟩
theorem cell_one_at (w : World) (a : Value) (t : TypeId) : ∀ j u, [a][j]? = some u → (w.alloc (.cells #[a] t)).cell? ((⟨w.heap.size, 0, none⟩ : Addr).add j) = some u := by
  intro j u h
  have ha : (⟨w.heap.size, 0, none⟩ : Addr).add j = ⟨w.heap.size, j, none⟩ := by unfold Addr.add; split <;> simp_all
  rw [ha, World.cell?_alloc_at (hn := rfl)]
  simpa using h
/-- 'append(l, t)' of one text, l the call's own. -/
theorem app9 {ops : Array Oper} {rest : List Oper} {o : Oper} {a : Act} {Q : Exit → Act → World → Prop} {w : World} (hgd : o.guard = none) (s x : Operand)
    (ho : o.op = .call { callee := .builtin .append, args := #[s, x], argTypes := #[47, 47] }) (base : Nat) (v : Value) (L : List (List UInt8)) (hs : a.eval s = v) (hown : OwnT w base v L) (t : List UInt8)
    (g : Nat) (hg : g = w.heap.size) (hx : a.eval x = .slice (some ⟨g, 0, none⟩) 1 1) (hlen : L.length ≤ 1000000) (hbase : base ≤ w.heap.size)
    (h : ∀ v' w', OwnT w' base v' (L ++ [t]) → Below base w w' → wpList Try.prog ops Q rest (a.put o.dst v') w') :
    wpList Try.prog ops Q (o :: rest) a (w.alloc (.cells #[.string (M.bs t)] 9)) := by
  obtain ⟨i0, hi, hz0, hz1, hz2⟩ := info_parts info9
  subst hg
  refine wpList_append_own _ hgd s x 47 ho base 9 i0 _ 1 16 Try.underlying47 hi hz0 hz1 hz2 rfl (by decide) v L.length _ hs (World.ownsRow.alloc hown _) ⟨w.heap.size, 0, none⟩ 1 1 (cell1 t) hx rfl (cell_one_at _ _ _) ?_ (by unfold maxLen; omega) (by omega) (by simp; omega) ?_
  · intro u hu; simp [cell1] at hu; subst hu; rfl
  · intro v' w' h1 h2 _
    refine h v' w' ?_ ?_
    · unfold OwnT; simpa using h1
    · refine ((Below.refl base w).alloc hbase _).grown h2 (by simp; omega) (fun k hk => ?_)
      exact (World.ownsRow.lt hown k hk).1
/-- 'framed'. -/
theorem framed_any (t : List UInt8) (w : World) (ht : t.length ≤ 65535) : Calls Try.prog 21 #[.string (M.bs t)] w fun e w' => e = .returned (.string (M.bs (M.frm t))) ∧ Bel w w' := by
  have H := fun W => put_any (t.length : Int) 2 W (by omega) (by omega)
  have hz : (M.bs t).size = t.length := M.bs_size t
  have z2 : (M.bs (M.put (t.length : Int) 2)).size = 2 := by rw [M.bs_size, M.put_two_len _ (by omega) (by omega)]
  have HE : Hid (M.bs (M.put (t.length : Int) 2) ++ M.bs t = M.bs (M.frm t)) := by show _ = _; rw [M.bs_append]; rfl
  generalize M.bs (M.put (t.length : Int) 2) = S at *
  go_enter Try.func21, Try.ntmps21
  go_wp2_with fail
  refine (H _).mono ?_
  rintro e w1 ⟨rfl, b1⟩
  go_wp2_with fail
  go_ret
  exact ⟨by rw [← HE.out]; rfl, b1⟩
/-- 'unframed'. -/
theorem unframed_any (g : Nat) (r : M.Rd) (w : World) (h : RdAt w g r) (hr : r.1.length ≤ 100000) :
    Calls Try.prog 30 #[.pointer (some ⟨g, 0, none⟩)] w fun e w' => e = .returned (.string (M.bs (M.unf r).1)) ∧ RdAt w' g (M.unf r).2 ∧ Kp g w w' := by
  have H1 := rnum_any g r 2 w h (by omega) hr
  have hl := rnum_lt r 2 (by omega)
  have H2 := fun W h => rtext_any g (M.rnum r 2).2 (M.rnum r 2).1 W h (by omega) (by omega)
  have HE : Hid (M.unf r = M.rtext (M.rnum r 2).2 (M.rnum r 2).1) := rfl
  generalize (M.rnum r 2).2 = R at *
  generalize (M.rnum r 2).1 = n at *
  go_enter Try.func30, Try.ntmps30
  go_wp2_with fail
  refine H1.mono ?_
  rintro e w1 ⟨rfl, h1, k1⟩
  go_wp2_with fail
  refine (H2 _ h1).mono ?_
  rintro e w2 ⟨rfl, h2, k2⟩
  go_wp2_with fail
  go_ret
  exact ⟨by rw [HE.out]; rfl, by rw [HE.out]; exact h2, k1.tr k2⟩
set_option maxHeartbeats 2000000 in
theorem split_any (s : List UInt8) (w : World) (hs : s.length ≤ 60000) :
    Calls Try.prog 15 #[.string (M.bs s)] w fun e w' => ∃ x, e = .returned (.tuple #[x, .int .i64 ((M.split s).2 : Int)]) ∧ OwnT w' w.heap.size x (M.split s).1 ∧ Bel w w' := by
  have H0 := of_any s w
  have H1 := fun W h => rnum_any w.heap.size (s, false) 2 W h (by omega) (by simp only; omega)
  have hl := rnum_lt (s, false) 2 (by omega)
  have HS : Hid (M.split s = if (M.spl (M.rnum (s, false) 2).1 (M.rnum (s, false) 2).2 []).2.2 = true then ([], 3)
    else if (M.spl (M.rnum (s, false) 2).1 (M.rnum (s, false) 2).2 []).2.1 ≠ [] then ([], 4) else ((M.spl (M.rnum (s, false) 2).1 (M.rnum (s, false) 2).2 []).1, 0)) := rfl
  generalize (M.rnum (s, false) 2).2 = r0 at *
  generalize (M.rnum (s, false) 2).1 = n at *
  obtain ⟨R, hR⟩ : ∃ R, R = M.spl n r0 [] := ⟨_, rfl⟩
  rw [← hR] at HS
  have HR : Hid (M.spl n r0 [] = R) := hR.symm
  simp only at hl
  clear hR
  go_enter Try.func15, Try.ntmps15
  go_wp2_with fail
  refine H0.mono ?_
  rintro e w1 ⟨rfl, h1, b1⟩
  have z1 := h1.lt
  go_wp2_with fail
  refine (H1 _ h1).mono ?_
  rintro e w2 ⟨rfl, h2, k2⟩
  have bb2 := Kp.bel b1 (Nat.le_refl _) k2
  clear H0 H1
  go_wp2_with fail
  go_loopw [5, 11] (fun lv i wr => ∃ (k : Nat) (r : M.Rd) (acc : List (List UInt8)), k ≤ n ∧ i = .int .i64 k ∧ OwnT wr (w.heap.size + 1) lv acc ∧ acc.length ≤ k ∧ RdAt wr w.heap.size r ∧ r.1.length ≤ 60000 ∧ M.spl (n - k) r acc = R ∧ Bel w wr) (fun _ i _ => n - (intOf i).toNat)
  case atStart => exact ⟨0, r0, [], Nat.zero_le _, rfl, OwnT.nil _ _, by simp, h2, by omega, HR.out, bb2⟩
  case round =>
    clear h1 h2 k2 bb2 b1 z1
    obtain ⟨k, r, acc, hk, rfl, hown, hacc, hrd, hrl, hspl, hb⟩ := hrel
    have hbz := hb.size
    have hrz := hrd.lt
    by_cases hlt : k < n
    · rw [show n - k = (n - (k + 1)) + 1 by omega, M.spl_step] at hspl
      have H2 := unframed_any w.heap.size r wr hrd (by omega)
      have hul := M.unf_len r
      by_cases hu : (M.unf r).2.2 = true
      · rw [if_pos hu] at hspl
        have HF : Hid (M.split s = ([], 3)) := by show _ = _; rw [HS.out, ← hspl, if_pos hu]
        have H3 := fun W h => short_any w.heap.size (M.unf r).2 W h
        rw [hu] at H3
        clear hspl hu
        generalize (M.unf r).2 = r' at *
        generalize M.bs (M.unf r).1 = t' at *
        go_wp2_with fail
        refine H2.mono ?_
        rintro e w3 ⟨rfl, h3, k3⟩
        go_wp2_with fail
        refine (H3 _ h3).mono ?_
        rintro e w4 ⟨rfl, rfl⟩
        go_wp2_with fail
        refine (H3 _ h3).mono ?_
        rintro e w5 ⟨rfl, rfl⟩
        go_wp2_with fail
        go_ret2
        exact ⟨_, by rw [HF.out]; rfl, by rw [HF.out]; exact OwnT.nil _ _, Kp.bel hb (Nat.le_refl _) k3⟩
      · rw [if_neg hu] at hspl
        rw [Bool.not_eq_true] at hu
        have H3 := fun W h => short_any w.heap.size (M.unf r).2 W h
        rw [hu] at H3
        have HN := hid hspl
        clear hspl hu
        generalize (M.unf r).2 = r' at *
        generalize (M.unf r).1 = t' at *
        go_wp2_with fail
        refine H2.mono ?_
        rintro e w3 ⟨rfl, h3, k3⟩
        have o3 := hown.kp k3 (by omega)
        have z3 := k3.size
        go_wp2_with fail
        refine (H3 _ h3).mono ?_
        rintro e w4 ⟨rfl, rfl⟩
        go_wp2_with (first
          | (at_builtin; refine app9 rfl _ _ rfl (w.heap.size + 1) _ _ rfl o3 t' w3.heap.size rfl rfl (by omega) (by omega) ?_; intro v1 w5 o5 b5))
        go_roundw
        case rel => exact ⟨k + 1, r', acc ++ [t'], by omega, by go_num, o5, by simp; omega, (b5.block _ (Nat.lt_succ_self _)).trans h3, by omega, HN.out, (Kp.bel hb (Nat.le_refl _) k3).trans (b5.mono (by omega))⟩
        case measure => simp [intOf]; omega
    · obtain rfl : k = n := by omega
      rw [Nat.sub_self] at hspl
      have hspl' : R = (acc, r) := hspl.symm
      clear hspl
      subst hspl'
      have H3 := short_any w.heap.size r wr hrd
      by_cases hu : r.2 = true
      · have HF : Hid (M.split s = ([], 3)) := by show _ = _; rw [HS.out, if_pos hu]
        rw [hu] at H3
        clear hu
        go_wp2_with fail
        refine H3.mono ?_
        rintro e w5 ⟨rfl, rfl⟩
        go_wp2_with fail
        go_ret2
        exact ⟨_, by rw [HF.out]; rfl, by rw [HF.out]; exact OwnT.nil _ _, hb⟩
      · have H4 := rest_any w.heap.size r wr hrd
        by_cases hv : r.1 = []
        · have HF : Hid (M.split s = (acc, 0)) := by show _ = _; rw [HS.out, if_neg hu, if_neg (by simp only; simp [hv])]
          have q : (M.bs r.1).toList = [] := by rw [M.bs_toList]; exact hv
          rw [Bool.not_eq_true] at hu
          rw [hu] at H3
          clear hu hv
          go_wp2_with fail
          refine H3.mono ?_
          rintro e w5 ⟨rfl, rfl⟩
          go_wp2_with fail
          refine H4.mono ?_
          rintro e w6 ⟨rfl, rfl⟩
          go_wp2_with fail
          go_ret2
          exact ⟨_, by rw [HF.out]; rfl, by rw [HF.out]; exact hown.low (by omega), hb⟩
        · have HF : Hid (M.split s = ([], 4)) := by show _ = _; rw [HS.out, if_neg hu, if_pos (by simp only; exact hv)]
          have q1 : (M.bs r.1).toList.isEmpty = false := by rw [M.bs_toList]; simpa using hv
          have q2 : ¬ (M.bs r.1).toList = [] := by rw [M.bs_toList]; exact hv
          rw [Bool.not_eq_true] at hu
          rw [hu] at H3
          clear hu hv
          go_wp2_with fail
          refine H3.mono ?_
          rintro e w5 ⟨rfl, rfl⟩
          go_wp2_with fail
          refine H4.mono ?_
          rintro e w6 ⟨rfl, rfl⟩
          go_wp2_with fail
          go_ret2
          exact ⟨_, by rw [HF.out]; rfl, by rw [HF.out]; exact OwnT.nil _ _, hb⟩
end Go.Proofs.Ytaepbmcmggnmpaa
