/-
  The contract of record's changed, walked.
-/
import Derived.Test.YtaepbmcmggnmpaaGA
namespace Go.Proofs.Ytaepbmcmggnmpaa
open Go.RowKit
set_option maxRecDepth 100000

/-- A block of two cells. -/
def B2 (w : World) (b : Nat) (t : TypeId) (c0 c1 : Value) : Prop := w.heap[b]? = some (.cells #[c0, c1] t (0, 0))
theorem B2.lt {w : World} {b : Nat} {t : TypeId} {c0 c1 : Value} (h : B2 w b t c0 c1) : b < w.heap.size := (Array.getElem?_eq_some_iff.1 h).1
theorem B2.bel {b : Nat} {w w' : World} {t : TypeId} {c0 c1 : Value} (h : B2 w b t c0 c1) (k : Bel w w') : B2 w' b t c0 c1 := (k.block b h.lt).trans h
theorem B2.kp {g b : Nat} {w w' : World} {t : TypeId} {c0 c1 : Value} (h : B2 w b t c0 c1) (k : Kp g w w') (hb : b ≠ g) : B2 w' b t c0 c1 := (k.block b h.lt hb).trans h
theorem B2.cells {w : World} {b : Nat} {t : TypeId} {c0 c1 : Value} (h : B2 w b t c0 c1) : (w.cell? ⟨b, 0, none⟩ = some c0 ∧ w.cell? ⟨b, 1, none⟩ = some c1) ∧ (w.frozen? ⟨b, 0, none⟩ = false ∧ w.frozen? ⟨b, 1, none⟩ = false) :=
  ⟨⟨by rw [Lib.cell_of_heap h]; rfl, by rw [Lib.cell_of_heap h]; rfl⟩, Lib.frozen_of_heap h 0, Lib.frozen_of_heap h 1⟩
theorem B2.put {w : World} {b : Nat} {t : TypeId} {c0 c1 : Value} (h : B2 w b t c0 c1) (x y : Value) : B2 ((w.setCell ⟨b, 0, none⟩ x).setCell ⟨b, 1, none⟩ y) b t x y := by
  have h1 : B2 (w.setCell ⟨b, 0, none⟩ x) b t x c1 := by
    unfold B2
    rw [heap_setCell_same w b 0 _ t _ h]; rfl
  unfold B2
  rw [heap_setCell_same _ b 1 _ t _ h1]; rfl
theorem Kp.new {g B o : Nat} {w x : World} {u : Value} (h : Kp g w x) (hB : w.heap.size ≤ B) : Kp g w (x.setCell ⟨B, o, none⟩ u) :=
  ⟨h.os, h.tape, h.output, by have := h.size; simpa [World.setCell] using this, fun k hk hkg => (Below.heap_setCell _ _ _ _ (by simp; omega)).trans (h.block k hk hkg)⟩
theorem RdAt.set2 {w : World} {g B : Nat} {r : M.Rd} (h : RdAt w g r) (hB : B ≠ g) (x y : Value) : RdAt ((w.setCell ⟨B, 0, none⟩ x).setCell ⟨B, 1, none⟩ y) g r := by
  unfold RdAt
  rw [Below.heap_setCell _ _ _ _ (by simp; omega), Below.heap_setCell _ _ _ _ (by simp; omega)]
  exact h
theorem OwnP.set2 {tp t : TypeId} {w : World} {base B : Nat} {v : Value} {L : List M.Pc} {c0 c1 : Value} (h : OwnP tp w base v L) (hB : B2 w B t c0 c1) (ht : t ≠ tp) (x y : Value) : OwnP tp ((w.setCell ⟨B, 0, none⟩ x).setCell ⟨B, 1, none⟩ y) base v L := by
  have h1 : B2 (w.setCell ⟨B, 0, none⟩ x) B t x c1 := by
    unfold B2
    rw [heap_setCell_same w B 0 _ t _ hB]; rfl
  exact h.kt ((KT.set hB ht).tr (KT.set h1 ht))
set_option maxHeartbeats 2000000 in
theorem changed_any (g : Nat) (r : M.Rd) (w : World) (h : RdAt w g r) (hr : r.1.length ≤ 20000) :
    Calls Try.prog 31 #[.pointer (some ⟨g, 0, none⟩)] w fun e w' => ∃ x, e = .returned (.tuple #[.agg #[.int .i64 (M.chg r).1.1, x], .int .i64 ((M.chg r).2.1 : Int)]) ∧ OwnP 66 w' w.heap.size x (M.chg r).1.2 ∧ ((M.chg r).2.1 = 0 → RdAt w' g (M.chg r).2.2) ∧ Kp g w w' := by
  have hgw := h.lt
  have H1 := fun W h => rnum_any g r 2 W h (by omega) (by omega)
  have hl := rnum_lt r 2 (by omega)
  have H2 := fun W h => short_any g (M.rnum r 2).2 W h
  have h0 := h.bel (Bel.al (Below.refl _ w) (.cells #[.int .i64 0, .slice none 0 0] 60))
  have x0 : B2 (w.alloc (.cells #[.int .i64 0, .slice none 0 0] 60)) w.heap.size 60 (.int .i64 0) (.slice none 0 0) := heap_alloc_new w _
  have k0 : Kp g w (w.alloc (.cells #[.int .i64 0, .slice none 0 0] 60)) := Kp.of_bel (Bel.al (Below.refl _ w) _)
  have hne : w.heap.size ≠ g := by omega
  by_cases hb : (M.rnum r 2).2.2 = true
  · have HF : Hid (M.chg r = ((0, []), 3, (M.rnum r 2).2)) := by show _ = _; unfold M.chg; rw [if_pos hb]
    rw [hb] at H2
    clear hb
    generalize (M.rnum r 2).2 = r1 at *
    generalize (M.rnum r 2).1 = n1 at *
    go_enter Try.func31, Try.ntmps31
    go_wp2_with fail
    refine (H1 _ h0).mono ?_
    rintro e w1 ⟨rfl, h1, k1⟩
    have x1 := x0.kp k1 hne
    go_wp2_with fail
    refine (H2 _ h1).mono ?_
    rintro e w2 ⟨rfl, rfl⟩
    obtain ⟨⟨d0, d1⟩, f0, f1⟩ := x1.cells
    obtain ⟨⟨e0, e1⟩, _⟩ := (x1.put (.int .i64 0) (.slice none 0 0)).cells
    go_wp2_with fail
    refine bodyPost_ret (v := .tuple #[.agg #[.int .i64 0, .slice none 0 0], .int .i64 3]) (by simp [results, Try.results31, go_sem, e0, e1]) rfl ⟨.slice none 0 0, by rw [HF.out]; rfl, by rw [HF.out]; exact OwnP.nil _ _ _, fun h => by rw [HF.out] at h; simp at h, ((k0.tr k1).new (Nat.le_refl _)).new (Nat.le_refl _)⟩
  · rw [Bool.not_eq_true] at hb
    have H3 := fun W h => rest_any g (M.rnum r 2).2 W h
    have H4 := fun W => getP_any (M.rnum r 2).2.1 W (by omega)
    by_cases hc : (M.getP (M.rnum r 2).2.1).2.2 = 0
    · have HF : Hid (M.chg r = ((((M.rnum r 2).1 : Int), (M.getP (M.rnum r 2).2.1).1), 0, (M.rtext (M.rnum r 2).2 (M.getP (M.rnum r 2).2.1).2.1).2)) := by
        show _ = _; unfold M.chg; rw [if_neg (by rw [hb]; decide), if_neg (by simp [hc])]
      have hu := (M.putP_getP (M.rnum r 2).2.1 (M.getP (M.rnum r 2).2.1).1 (M.getP (M.rnum r 2).2.1).2.1 (by rw [← hc])).2.1
      have H5 := fun W h => rtext_any g (M.rnum r 2).2 (M.getP (M.rnum r 2).2.1).2.1 W h (by omega) (by omega)
      rw [hb] at H2
      rw [hc] at H4
      clear hb hc
      generalize (M.getP (M.rnum r 2).2.1).1 = pl at *
      generalize (M.getP (M.rnum r 2).2.1).2.1 = u at *
      generalize (M.rtext (M.rnum r 2).2 u).2 = r2 at *
      generalize M.bs (M.rtext (M.rnum r 2).2 u).1 = t2 at *
      generalize (M.rnum r 2).2 = r1 at *
      generalize (M.rnum r 2).1 = n1 at *
      go_enter Try.func31, Try.ntmps31
      go_wp2_with fail
      refine (H1 _ h0).mono ?_
      rintro e w1 ⟨rfl, h1, k1⟩
      have x1 := x0.kp k1 hne
      have z1 := k1.size
      simp only [World.size_alloc] at z1
      go_wp2_with fail
      refine (H2 _ h1).mono ?_
      rintro e w2 ⟨rfl, rfl⟩
      go_wp2_with fail
      refine (H3 _ h1).mono ?_
      rintro e w2 ⟨rfl, rfl⟩
      go_wp2_with fail
      refine (H4 _).mono ?_
      rintro e w3 ⟨x, rfl, o3, b3⟩
      obtain ⟨xa, xc, rfl, _⟩ := id o3.vals
      have x3 := x1.bel b3
      have h3 := h1.bel b3
      go_wp2_with fail
      refine (H5 _ h3).mono ?_
      rintro e w4 ⟨rfl, h4, k4⟩
      have x4 := x3.kp k4 hne
      have o4 := o3.kt (KT.of_kp k4 h3 (by decide))
      obtain ⟨⟨d0, d1⟩, f0, f1⟩ := x4.cells
      obtain ⟨⟨e0, e1⟩, _⟩ := (x4.put (.int .i64 (n1 : Int)) (.slice xa pl.length xc)).cells
      have HO := hid ((o4.set2 x4 (by decide) (.int .i64 (n1 : Int)) (.slice xa pl.length xc)).low (base' := w.heap.size) (by omega))
      have HRD := hid (h4.set2 hne (.int .i64 (n1 : Int)) (.slice xa pl.length xc))
      have HK := hid ((((((k0.tr k1).tr (Kp.of_bel b3)).tr k4).new (o := 0) (u := .int .i64 (n1 : Int)) (Nat.le_refl _))).new (o := 1) (u := .slice xa pl.length xc) (Nat.le_refl _))
      clear o3 o4 h4 h3 h1 x1 x3 x4 k1 k4 b3
      go_wp2_with fail
      refine bodyPost_ret (v := .tuple #[.agg #[.int .i64 (n1 : Int), .slice xa pl.length xc], .int .i64 0]) (by simp [results, Try.results31, go_sem, e0, e1]) rfl ⟨.slice xa pl.length xc, by rw [HF.out]; rfl, by rw [HF.out]; exact HO.out, fun _ => by rw [HF.out]; exact HRD.out, HK.out⟩
    · have HF : Hid (M.chg r = ((0, []), (M.getP (M.rnum r 2).2.1).2.2, (M.rnum r 2).2)) := by
        show _ = _; unfold M.chg; rw [if_neg (by rw [hb]; decide), if_pos hc]
      rw [hb] at H2
      clear hb
      generalize (M.getP (M.rnum r 2).2.1).1 = pl at *
      generalize (M.getP (M.rnum r 2).2.1).2.1 = u at *
      generalize (M.getP (M.rnum r 2).2.1).2.2 = cd at *
      generalize (M.rnum r 2).2 = r1 at *
      generalize (M.rnum r 2).1 = n1 at *
      have qc : ((cd : Int) != 0) = true := by first | (simp; done) | (simp; omega)
      have qc2 : ¬ ((cd : Int) = 0) := by omega
      go_enter Try.func31, Try.ntmps31
      go_wp2_with fail
      refine (H1 _ h0).mono ?_
      rintro e w1 ⟨rfl, h1, k1⟩
      have x1 := x0.kp k1 hne
      go_wp2_with fail
      refine (H2 _ h1).mono ?_
      rintro e w2 ⟨rfl, rfl⟩
      go_wp2_with fail
      refine (H3 _ h1).mono ?_
      rintro e w2 ⟨rfl, rfl⟩
      go_wp2_with fail
      refine (H4 _).mono ?_
      rintro e w3 ⟨x, rfl, o3, b3⟩
      have x3 := x1.bel b3
      obtain ⟨⟨d0, d1⟩, f0, f1⟩ := x3.cells
      obtain ⟨⟨e0, e1⟩, _⟩ := (x3.put (.int .i64 0) (.slice none 0 0)).cells
      go_wp2_with fail
      refine bodyPost_ret (v := .tuple #[.agg #[.int .i64 0, .slice none 0 0], .int .i64 (cd : Int)]) (by simp [results, Try.results31, go_sem, e0, e1]) rfl ⟨.slice none 0 0, by rw [HF.out], by rw [HF.out]; exact OwnP.nil _ _ _, fun h => by rw [HF.out] at h; exact absurd h hc, (((k0.tr k1).tr (Kp.of_bel b3)).new (Nat.le_refl _)).new (Nat.le_refl _)⟩
end Go.Proofs.Ytaepbmcmggnmpaa
