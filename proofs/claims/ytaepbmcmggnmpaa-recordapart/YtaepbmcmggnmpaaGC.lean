/-
  The contract of record's Get, walked.
-/
import Derived.Test.YtaepbmcmggnmpaaGB
namespace Go.Proofs.Ytaepbmcmggnmpaa
open Go.RowKit
set_option maxRecDepth 100000

def six (W : World) (b : Nat) (x0 x1 x2 x3 x4 x5 : Value) : World := (((((W.setCell ⟨b, 0, none⟩ x0).setCell ⟨b, 1, none⟩ x1).setCell ⟨b, 2, none⟩ x2).setCell ⟨b, 3, none⟩ x3).setCell ⟨b, 4, none⟩ x4).setCell ⟨b, 5, none⟩ x5
theorem Bel.six {w w1 : World} (h : Bel w w1) {b : Nat} (hb : w.heap.size ≤ b) (x0 x1 x2 x3 x4 x5 : Value) : Bel w (six w1 b x0 x1 x2 x3 x4 x5) :=
  Below.setCell (Below.setCell (Below.setCell (Below.setCell (Below.setCell (Below.setCell h hb _) hb _) hb _) hb _) hb _) hb _
/-- A block of six cells of a type. -/
def Bt (t : TypeId) (w : World) (b : Nat) (c0 c1 c2 c3 c4 c5 : Value) : Prop := w.heap[b]? = some (.cells #[c0, c1, c2, c3, c4, c5] t (0, 0))
theorem Bt.lt {t : TypeId} {w : World} {b : Nat} {c0 c1 c2 c3 c4 c5 : Value} (h : Bt t w b c0 c1 c2 c3 c4 c5) : b < w.heap.size := (Array.getElem?_eq_some_iff.1 h).1
theorem Bt.bel {t : TypeId} {b : Nat} {w w' : World} {c0 c1 c2 c3 c4 c5 : Value} (h : Bt t w b c0 c1 c2 c3 c4 c5) (k : Bel w w') : Bt t w' b c0 c1 c2 c3 c4 c5 := (k.block b h.lt).trans h
theorem Bt.cells {t : TypeId} {w : World} {b : Nat} {c0 c1 c2 c3 c4 c5 : Value} (h : Bt t w b c0 c1 c2 c3 c4 c5) : w.cell? ⟨b, 0, none⟩ = some c0 ∧ w.cell? ⟨b, 1, none⟩ = some c1 ∧ w.cell? ⟨b, 2, none⟩ = some c2 ∧ w.cell? ⟨b, 3, none⟩ = some c3 ∧ w.cell? ⟨b, 4, none⟩ = some c4 ∧ w.cell? ⟨b, 5, none⟩ = some c5 := cells6_of h
theorem Bt.froz {t : TypeId} {w : World} {b : Nat} {c0 c1 c2 c3 c4 c5 : Value} (h : Bt t w b c0 c1 c2 c3 c4 c5) (j : Nat) : w.frozen? ⟨b, j, none⟩ = false := Lib.frozen_of_heap h j
theorem Bt.set {t : TypeId} {w : World} {b : Nat} {c0 c1 c2 c3 c4 c5 : Value} (h : Bt t w b c0 c1 c2 c3 c4 c5) (j : Nat) (u : Value) : (w.setCell ⟨b, j, none⟩ u).heap[b]? = some (.cells (#[c0, c1, c2, c3, c4, c5].setIfInBounds j u) t (0, 0)) := heap_setCell_same w b j _ t u h
theorem Bt.other {t : TypeId} {w : World} {b g j : Nat} {u c0 c1 c2 c3 c4 c5 : Value} (h : Bt t w b c0 c1 c2 c3 c4 c5) (hne : b ≠ g) : Bt t (w.setCell ⟨g, j, none⟩ u) b c0 c1 c2 c3 c4 c5 := (Below.heap_setCell _ _ _ _ (by simpa using hne)).trans h
theorem Bt.grown {t : TypeId} {b : Nat} {w w' : World} {row : Option Nat} {c0 c1 c2 c3 c4 c5 : Value} (h : Bt t w b c0 c1 c2 c3 c4 c5) (k : w.grownBy w' row) (hb : row ≠ some b) : Bt t w' b c0 c1 c2 c3 c4 c5 := (k.block b h.lt (fun e => hb e.symm)).trans h
theorem Bt.five {t : TypeId} {w : World} {b : Nat} {c0 c1 c2 c3 c4 c5 : Value} (h : Bt t w b c0 c1 c2 c3 c4 c5) (x : Value) : Bt t (w.setCell ⟨b, 5, none⟩ x) b c0 c1 c2 c3 c4 x := h.set 5 x
theorem Bt.six {t : TypeId} {W : World} {b : Nat} {c0 c1 c2 c3 c4 c5 : Value} (h : Bt t W b c0 c1 c2 c3 c4 c5) (x0 x1 x2 x3 x4 x5 : Value) : Bt t (six W b x0 x1 x2 x3 x4 x5) b x0 x1 x2 x3 x4 x5 := by
  have h0 : Bt t (W.setCell ⟨b, 0, none⟩ x0) b x0 c1 c2 c3 c4 c5 := h.set 0 x0
  have h1 : Bt t ((W.setCell ⟨b, 0, none⟩ x0).setCell ⟨b, 1, none⟩ x1) b x0 x1 c2 c3 c4 c5 := h0.set 1 x1
  have h2 : Bt t (((W.setCell ⟨b, 0, none⟩ x0).setCell ⟨b, 1, none⟩ x1).setCell ⟨b, 2, none⟩ x2) b x0 x1 x2 c3 c4 c5 := h1.set 2 x2
  have h3 : Bt t ((((W.setCell ⟨b, 0, none⟩ x0).setCell ⟨b, 1, none⟩ x1).setCell ⟨b, 2, none⟩ x2).setCell ⟨b, 3, none⟩ x3) b x0 x1 x2 x3 c4 c5 := h2.set 3 x3
  have h4 : Bt t (((((W.setCell ⟨b, 0, none⟩ x0).setCell ⟨b, 1, none⟩ x1).setCell ⟨b, 2, none⟩ x2).setCell ⟨b, 3, none⟩ x3).setCell ⟨b, 4, none⟩ x4) b x0 x1 x2 x3 x4 c5 := h3.set 4 x4
  exact h4.set 5 x5
theorem Bt.sixOther {t : TypeId} {w : World} {b g : Nat} {c0 c1 c2 c3 c4 c5 : Value} (h : Bt t w b c0 c1 c2 c3 c4 c5) (hne : b ≠ g) (x0 x1 x2 x3 x4 x5 : Value) : Bt t (Go.Proofs.Ytaepbmcmggnmpaa.six w g x0 x1 x2 x3 x4 x5) b c0 c1 c2 c3 c4 c5 :=
  (((((h.other hne).other hne).other hne).other hne).other hne).other hne
theorem Bt.kp {t : TypeId} {g b : Nat} {w w' : World} {c0 c1 c2 c3 c4 c5 : Value} (h : Bt t w b c0 c1 c2 c3 c4 c5) (k : Kp g w w') (hb : b ≠ g) : Bt t w' b c0 c1 c2 c3 c4 c5 := (k.block b h.lt hb).trans h
theorem Bt.low {t : TypeId} {B b : Nat} {w w' : World} {c0 c1 c2 c3 c4 c5 : Value} (h : Bt t w b c0 c1 c2 c3 c4 c5) (k : Below B w w') (hb : b < B) : Bt t w' b c0 c1 c2 c3 c4 c5 := (k.block b hb).trans h
theorem RdAt.low {B g : Nat} {w w' : World} {r : M.Rd} (h : RdAt w g r) (k : Below B w w') (hb : g < B) : RdAt w' g r := (k.block g hb).trans h
theorem RdAt.other {w : World} {g b j : Nat} {u : Value} {r : M.Rd} (h : RdAt w g r) (hne : g ≠ b) : RdAt (w.setCell ⟨b, j, none⟩ u) g r := (Below.heap_setCell _ _ _ _ (by simpa using hne)).trans h
theorem Bt.three {t : TypeId} {w : World} {b : Nat} {c0 c1 c2 c3 c4 c5 : Value} (h : Bt t w b c0 c1 c2 c3 c4 c5) (x y z : Value) : Bt t (((w.setCell ⟨b, 0, none⟩ x).setCell ⟨b, 1, none⟩ y).setCell ⟨b, 2, none⟩ z) b x y z c3 c4 c5 := by
  have h0 : Bt t (w.setCell ⟨b, 0, none⟩ x) b x c1 c2 c3 c4 c5 := h.set 0 x
  have h1 : Bt t ((w.setCell ⟨b, 0, none⟩ x).setCell ⟨b, 1, none⟩ y) b x y c2 c3 c4 c5 := h0.set 1 y
  exact h1.set 2 z
theorem Bt.f3 {t : TypeId} {w : World} {b : Nat} {c0 c1 c2 c3 c4 c5 : Value} (h : Bt t w b c0 c1 c2 c3 c4 c5) (x : Value) : Bt t (w.setCell ⟨b, 3, none⟩ x) b c0 c1 c2 x c4 c5 := h.set 3 x
theorem Bt.f4 {t : TypeId} {w : World} {b : Nat} {c0 c1 c2 c3 c4 c5 : Value} (h : Bt t w b c0 c1 c2 c3 c4 c5) (x : Value) : Bt t (w.setCell ⟨b, 4, none⟩ x) b c0 c1 c2 c3 x c5 := h.set 4 x
theorem KT.six {tp t : TypeId} {w : World} {b : Nat} {c0 c1 c2 c3 c4 c5 : Value} (h : Bt t w b c0 c1 c2 c3 c4 c5) (ht : t ≠ tp) (x0 x1 x2 x3 x4 x5 : Value) : KT tp w (six w b x0 x1 x2 x3 x4 x5) := by
  have one : ∀ {W : World} {cs : Array Value} (o : Nat) (u : Value), W.heap[b]? = some (.cells cs t (0, 0)) → (W.setCell ⟨b, o, none⟩ u).heap[b]? = some (.cells (cs.setIfInBounds o u) t (0, 0)) := fun o u h => heap_setCell_same _ b o _ t u h
  have h0 := one 0 x0 h
  have h1 := one 1 x1 h0
  have h2 := one 2 x2 h1
  have h3 := one 3 x3 h2
  have h4 := one 4 x4 h3
  exact (((((KT.set h ht).tr (KT.set h0 ht)).tr (KT.set h1 ht)).tr (KT.set h2 ht)).tr (KT.set h3 ht)).tr (KT.set h4 ht)
theorem Kp.six {g : Nat} {w x : World} (h : Kp g w x) (x0 x1 x2 x3 x4 x5 : Value) : Kp g w (six x g x0 x1 x2 x3 x4 x5) :=
  (((((h.tr (Kp.set g 0 _ _)).tr (Kp.set g 1 _ _)).tr (Kp.set g 2 _ _)).tr (Kp.set g 3 _ _)).tr (Kp.set g 4 _ _)).tr (Kp.set g 5 _ _)
abbrev Z6 (t : TypeId) (w : World) (b : Nat) : Prop := Bt t w b (.int .i64 0) (.int .i64 0) (.int .i64 0) (.string ⟨#[]⟩) (.int .i64 0) (.slice none 0 0)
abbrev zero6 : Obj := .cells #[.int .i64 0, .int .i64 0, .int .i64 0, .string ⟨#[]⟩, .int .i64 0, .slice none 0 0] 29
set_option maxHeartbeats 400000 in
theorem get_long (s : List UInt8) (w : World) (hs : 16384 < s.length) (hs2 : s.length ≤ 60000) :
    Calls Try.prog 11 #[.string (M.bs s)] w fun e w' => ∃ x Q, e = .returned (.tuple #[rv (M.getR s).1 x, .int .i64 ((M.getR s).2 : Int)]) ∧ Q.map (·.1) = (M.getR s).1.pages ∧ OwnC 60 w' w.heap.size x Q ∧ AllP 66 w' w.heap.size Q ∧ Bel w w' := by
  have HF : Hid (M.getR s = (M.zeroR, 6)) := by show _ = _; unfold M.getR; rw [if_pos hs]
  have hz : (M.bs s).size = s.length := M.bs_size s
  have r0 : Z6 29 (w.alloc (.cells #[.int .i64 0, .int .i64 0, .int .i64 0, .string ⟨#[]⟩, .int .i64 0, .slice none 0 0] 29)) w.heap.size := heap_alloc_new w _
  have bW : Bel w (w.alloc (.cells #[.int .i64 0, .int .i64 0, .int .i64 0, .string ⟨#[]⟩, .int .i64 0, .slice none 0 0] 29)) := Bel.al (Below.refl _ _) _
  go_enter Try.func11, Try.ntmps11
  go_wp2_with fail
  refine bodyPost_ret (v := .tuple #[.agg #[.int .i64 0, .int .i64 0, .int .i64 0, .string ⟨#[]⟩, .int .i64 0, .slice none 0 0], .int .i64 6]) (by simp [results, Try.results11, go_sem]) rfl ⟨.slice none 0 0, [], by rw [HF.out]; try rfl, by rw [HF.out]; try rfl, OwnC.nil _ _ _, fun q hq => by simp at hq, bW⟩
set_option maxHeartbeats 4000000 in
theorem get_fits (s : List UInt8) (w : World) (hs : ¬ 16384 < s.length) :
    Calls Try.prog 11 #[.string (M.bs s)] w fun e w' => ∃ x Q, e = .returned (.tuple #[rv (M.getR s).1 x, .int .i64 ((M.getR s).2 : Int)]) ∧ Q.map (·.1) = (M.getR s).1.pages ∧ OwnC 60 w' w.heap.size x Q ∧ AllP 66 w' w.heap.size Q ∧ Bel w w' := by
  have HG : Hid (M.getR s = if (M.pgsOf s).2.1 ≠ 0 then (M.zeroR, (M.pgsOf s).2.1)
    else if (M.pgsOf s).2.2.2 = true then (M.zeroR, 3)
    else if (M.pgsOf s).2.2.1 ≠ [] then (M.zeroR, 4)
    else if M.btw 1 (M.hd3 s).1 4 = true then (⟨(M.hd1 s).1, (M.hd2 s).1, (M.hd3 s).1, (M.hd4 s).1, (M.hd5 s).1, (M.pgsOf s).1⟩, 0) else (M.zeroR, 2)) := by show _ = _; unfold M.getR; rw [if_neg hs]
  have HP : Hid (M.pgs (M.hd6 s).1 (M.hd6 s).2 [] = M.pgsOf s) := rfl
  have hz : (M.bs s).size = s.length := M.bs_size s
  have l1 : (M.hd1 s).2.1.length ≤ s.length := rnum_len _ _
  have l2 : (M.hd2 s).2.1.length ≤ (M.hd1 s).2.1.length := rnum_len _ _
  have l3 : (M.hd3 s).2.1.length ≤ (M.hd2 s).2.1.length := rnum_len _ _
  have l4 : (M.hd4 s).2.1.length ≤ (M.hd3 s).2.1.length := M.unf_len _
  have l5 : (M.hd5 s).2.1.length ≤ (M.hd4 s).2.1.length := rnum_len _ _
  have l6 : (M.hd6 s).1 ≤ 65535 ∧ (M.hd6 s).2.1.length ≤ (M.hd5 s).2.1.length := rnum_lt _ 1 (by omega)
  have H1 := fun g W h => rnum_any g (s, false) 6 W h (by omega) (by simp only; omega)
  have H2 := fun g W h => rnum_any g (M.hd1 s).2 6 W h (by omega) (by omega)
  have H3 := fun g W h => rnum_any g (M.hd2 s).2 1 W h (by omega) (by omega)
  have H4 := fun g W h => unframed_any g (M.hd3 s).2 W h (by omega)
  have H5 := fun g W h => rnum_any g (M.hd4 s).2 2 W h (by omega) (by omega)
  have H6 := fun g W h => rnum_any g (M.hd5 s).2 1 W h (by omega) (by omega)
  have u1 : M.rnum (s, false) 6 = M.hd1 s := rfl
  have u2 : M.rnum (M.hd1 s).2 6 = M.hd2 s := rfl
  have u3 : M.rnum (M.hd2 s).2 1 = M.hd3 s := rfl
  have u4 : M.unf (M.hd3 s).2 = M.hd4 s := rfl
  have u5 : M.rnum (M.hd4 s).2 2 = M.hd5 s := rfl
  have u6 : M.rnum (M.hd5 s).2 1 = M.hd6 s := rfl
  rw [u1] at H1
  rw [u2] at H2
  rw [u3] at H3
  rw [u4] at H4
  rw [u5] at H5
  rw [u6] at H6
  have HK := fun W => isKind_any ((M.hd3 s).1 : Int) W
  clear u1 u2 u3 u4 u5 u6
  generalize M.getR s = GR at *
  generalize M.pgsOf s = R at *
  generalize (M.hd6 s).2 = r6 at *
  generalize (M.hd6 s).1 = n6 at *
  generalize (M.hd5 s).2 = r5 at *
  generalize (M.hd5 s).1 = n5 at *
  generalize (M.hd4 s).2 = r4 at *
  generalize (M.hd4 s).1 = t4 at *
  generalize (M.hd3 s).2 = r3 at *
  generalize (M.hd3 s).1 = n3 at *
  generalize (M.hd2 s).2 = r2 at *
  generalize (M.hd2 s).1 = n2 at *
  generalize (M.hd1 s).2 = r1 at *
  generalize (M.hd1 s).1 = n1 at *
  have a0 : Z6 29 (w.alloc (.cells #[.int .i64 0, .int .i64 0, .int .i64 0, .string ⟨#[]⟩, .int .i64 0, .slice none 0 0] 29)) w.heap.size := heap_alloc_new w _
  have bW : Bel w (w.alloc (.cells #[.int .i64 0, .int .i64 0, .int .i64 0, .string ⟨#[]⟩, .int .i64 0, .slice none 0 0] 29)) := Bel.al (Below.refl _ _) _
  have zW : (w.alloc (.cells #[.int .i64 0, .int .i64 0, .int .i64 0, .string ⟨#[]⟩, .int .i64 0, .slice none 0 0] 29)).heap.size = w.heap.size + 1 := by simp
  have H0 := of_any s (w.alloc (.cells #[.int .i64 0, .int .i64 0, .int .i64 0, .string ⟨#[]⟩, .int .i64 0, .slice none 0 0] 29))
  rw [zW] at H0
  go_enter Try.func11, Try.ntmps11
  go_wp2_with fail
  refine H0.mono ?_
  rintro e w1 ⟨rfl, h1, b1⟩
  have a1 := a0.bel b1
  have bb1 := bW.tr b1
  have z1 := b1.size
  rw [zW] at z1
  have z1' := h1.lt
  clear H0 a0 bW zW b1
  have hb2 : Bel w1 (w1.alloc (.cells #[.int .i64 0, .int .i64 0, .int .i64 0, .string ⟨#[]⟩, .int .i64 0, .slice none 0 0] 29)) := Bel.al (Below.refl _ _) _
  have c2 : Z6 29 (w1.alloc (.cells #[.int .i64 0, .int .i64 0, .int .i64 0, .string ⟨#[]⟩, .int .i64 0, .slice none 0 0] 29)) w1.heap.size := heap_alloc_new w1 _
  have a2 := a1.bel hb2
  have h2 := h1.bel hb2
  have bb2 := bb1.tr hb2
  clear hb2 a1 h1
  go_wp2_with fail
  generalize hG : w1.heap.size = G at *
  generalize w1.alloc (.cells #[.int .i64 0, .int .i64 0, .int .i64 0, .string ⟨#[]⟩, .int .i64 0, .slice none 0 0] 29) = W2 at *
  have zG : G < W2.heap.size := c2.lt
  refine (H1 _ _ h2).mono ?_
  rintro e w3 ⟨rfl, h3, k3⟩
  have c3 := c2.kp k3 (by omega)
  have a3 := a2.kp k3 (by omega)
  have bb3 := Kp.bel bb2 (by omega) k3
  go_wp2_with fail
  refine (H2 _ _ h3).mono ?_
  rintro e w4 ⟨rfl, h4, k4⟩
  have c4 := c3.kp k4 (by omega)
  have a4 := a3.kp k4 (by omega)
  have bb4 := Kp.bel bb3 (by omega) k4
  go_wp2_with fail
  refine (H3 _ _ h4).mono ?_
  rintro e w5 ⟨rfl, h5, k5⟩
  have c5 := c4.kp k5 (by omega)
  have a5 := a4.kp k5 (by omega)
  have bb5 := Kp.bel bb4 (by omega) k5
  obtain ⟨s0, s1, s2, _, _, _⟩ := c5.cells
  have y0 := c5.froz 0
  have y1 := c5.froz 1
  have y2 := c5.froz 2
  clear c2 c3 c4 a2 a3 a4 bb2 bb3 bb4 h2 h3 h4 k3 k4 k5 H1 H2 H3
  have c6 := c5.three (.int .i64 (n1 : Int)) (.int .i64 (n2 : Int)) (.int .i64 (n3 : Int))
  have a6 : Z6 29 (((w5.setCell ⟨G, 0, none⟩ (.int .i64 (n1 : Int))).setCell ⟨G, 1, none⟩ (.int .i64 (n2 : Int))).setCell ⟨G, 2, none⟩ (.int .i64 (n3 : Int))) w.heap.size := ((a5.other (by omega)).other (by omega)).other (by omega)
  have h6 : RdAt (((w5.setCell ⟨G, 0, none⟩ (.int .i64 (n1 : Int))).setCell ⟨G, 1, none⟩ (.int .i64 (n2 : Int))).setCell ⟨G, 2, none⟩ (.int .i64 (n3 : Int))) (w.heap.size + 1) r3 := ((h5.other (by omega)).other (by omega)).other (by omega)
  have bb6 : Bel w (((w5.setCell ⟨G, 0, none⟩ (.int .i64 (n1 : Int))).setCell ⟨G, 1, none⟩ (.int .i64 (n2 : Int))).setCell ⟨G, 2, none⟩ (.int .i64 (n3 : Int))) := Below.setCell (Below.setCell (Below.setCell bb5 (p := ⟨G, 0, none⟩) (by simp only; omega) _) (p := ⟨G, 1, none⟩) (by simp only; omega) _) (p := ⟨G, 2, none⟩) (by simp only; omega) _
  clear c5 a5 h5 bb5
  go_wp2_with fail
  clear s0 s1 s2 y0 y1 y2
  generalize ((w5.setCell ⟨G, 0, none⟩ (.int .i64 (n1 : Int))).setCell ⟨G, 1, none⟩ (.int .i64 (n2 : Int))).setCell ⟨G, 2, none⟩ (.int .i64 (n3 : Int)) = W6 at *
  refine (H4 _ _ h6).mono ?_
  rintro e w7 ⟨rfl, h7, k7⟩
  have c7 := c6.kp k7 (by omega)
  have a7 := a6.kp k7 (by omega)
  have bb7 := Kp.bel bb6 (by omega) k7
  obtain ⟨_, _, _, s3, _, _⟩ := c7.cells
  have y3 := c7.froz 3
  have c8 := c7.f3 (.string (M.bs t4))
  have a8 : Z6 29 (w7.setCell ⟨G, 3, none⟩ (.string (M.bs t4))) w.heap.size := a7.other (by omega)
  have h8 : RdAt (w7.setCell ⟨G, 3, none⟩ (.string (M.bs t4))) (w.heap.size + 1) r4 := h7.other (by omega)
  have bb8 : Bel w (w7.setCell ⟨G, 3, none⟩ (.string (M.bs t4))) := Below.setCell bb7 (p := ⟨G, 3, none⟩) (by simp only; omega) _
  clear c6 a6 h6 bb6 k7 c7 a7 h7 bb7 H4
  go_wp2_with fail
  clear s3 y3
  generalize w7.setCell ⟨G, 3, none⟩ (.string (M.bs t4)) = W8 at *
  refine (H5 _ _ h8).mono ?_
  rintro e w9 ⟨rfl, h9, k9⟩
  have c9 := c8.kp k9 (by omega)
  have a9 := a8.kp k9 (by omega)
  have bb9 := Kp.bel bb8 (by omega) k9
  obtain ⟨_, _, _, _, s4, _⟩ := c9.cells
  have y4 := c9.froz 4
  have c10 := c9.f4 (.int .i64 (n5 : Int))
  have a10 : Z6 29 (w9.setCell ⟨G, 4, none⟩ (.int .i64 (n5 : Int))) w.heap.size := a9.other (by omega)
  have h10 : RdAt (w9.setCell ⟨G, 4, none⟩ (.int .i64 (n5 : Int))) (w.heap.size + 1) r5 := h9.other (by omega)
  have bb10 : Bel w (w9.setCell ⟨G, 4, none⟩ (.int .i64 (n5 : Int))) := Below.setCell bb9 (p := ⟨G, 4, none⟩) (by simp only; omega) _
  clear c8 a8 h8 bb8 k9 c9 a9 h9 bb9 H5
  go_wp2_with fail
  clear s4 y4
  generalize w9.setCell ⟨G, 4, none⟩ (.int .i64 (n5 : Int)) = W10 at *
  refine (H6 _ _ h10).mono ?_
  rintro e w11 ⟨rfl, h11, k11⟩
  have c11 := c10.kp k11 (by omega)
  have a11 := a10.kp k11 (by omega)
  have bb11 := Kp.bel bb10 (by omega) k11
  have z11 : G < w11.heap.size := c11.lt
  clear c10 a10 h10 bb10 k11 H6
  go_wp2_with fail
  go_loopw [31] (fun i wr => ∃ (k : Nat) (r : M.Rd) (v : Value) (Q : List (M.Ch × Value)), k ≤ n6 ∧ i = .int .i64 k ∧ Q.length ≤ k ∧
      Z6 29 wr w.heap.size ∧ Bt 29 wr G (.int .i64 (n1 : Int)) (.int .i64 (n2 : Int)) (.int .i64 (n3 : Int)) (.string (M.bs t4)) (.int .i64 (n5 : Int)) v ∧ RdAt wr (w.heap.size + 1) r ∧ r.1.length ≤ 20000 ∧
      OwnC 60 wr (G + 1) v Q ∧ AllP 66 wr (G + 1) Q ∧ M.pgs (n6 - k) r (Q.map (·.1)) = R ∧ Bel w wr) (fun i _ => n6 - (intOf i).toNat)
  case atStart => exact ⟨0, r6, _, [], Nat.zero_le _, rfl, by simp, a11, c11, h11, by omega, OwnC.nil _ _ _, (fun q hq => by simp at hq), HP.out, bb11⟩
  case round =>
    clear a11 c11 h11 bb11 z11 HP
    obtain ⟨k, r, v, Q, hk, rfl, hQ, a0, c0, hrd, hrl, hoc, hap, hpg, hb⟩ := hrel
    have hcz := c0.lt
    obtain ⟨ax, cx, rfl⟩ := hoc.form
    obtain ⟨z0, z1, z2, z3, z4, z5⟩ := a0.cells
    have y0 := a0.froz 0
    have y1 := a0.froz 1
    have y2 := a0.froz 2
    have y3 := a0.froz 3
    have y4 := a0.froz 4
    have y5 := a0.froz 5
    by_cases hlt : k < n6
    · rw [show n6 - k = (n6 - (k + 1)) + 1 by omega, M.pgs_step] at hpg
      have HC := changed_any (w.heap.size + 1) r wr hrd hrl
      by_cases hcd : (M.chg r).2.1 = 0
      · rw [if_neg (by simp [hcd])] at hpg
        have hcl := (M.chg_len r hcd).1
        rw [hcd] at HC
        have HN := hid hpg
        clear hpg hcd
        generalize (M.chg r).2.2 = r' at *
        generalize (M.chg r).1 = ch at *
        obtain ⟨pn, pl⟩ := ch
        simp only at HC HN
        clear z0 z1 z2 z3 z4 z5 y0 y1 y2 y3 y4 y5
        go_wp2_with fail
        refine HC.mono ?_
        rintro e w2 ⟨x, rfl, o2, hr2, k2⟩
        obtain ⟨xa, xc, rfl, _⟩ := id o2.vals
        have h2 := hr2 (by simp)
        have z2 := k2.size
        have hbx : Bel w2 (w2.alloc (.cells #[.int .i64 pn, .slice xa pl.length xc] 60)) := Bel.al (Below.refl _ _) _
        have a3 := (a0.kp k2 (by omega)).bel hbx
        have c3 := (c0.kp k2 (by omega)).bel hbx
        have h3 := h2.bel hbx
        have oc3 := (hoc.kp k2 (by omega)).bel hbx
        have ap3 := (hap.kt (KT.of_kp k2 hrd (by decide))).kt (KT.of_bel hbx)
        have o3 := (o2.bel hbx).low (base' := G + 1) (by omega)
        have bb3 := (Kp.bel hb (by omega) k2).tr hbx
        have x5 := c3.cells.2.2.2.2.2
        have xb : B2 (w2.alloc (.cells #[.int .i64 pn, .slice xa pl.length xc] 60)) w2.heap.size 60 (.int .i64 pn) (.slice xa pl.length xc) := heap_alloc_new w2 _
        have zz : (w2.alloc (.cells #[.int .i64 pn, .slice xa pl.length xc] 60)).heap.size = w2.heap.size + 1 := by simp
        obtain ⟨⟨xb0, xb1⟩, _⟩ := xb.cells
        clear a0 c0 hrd hoc hap hb HC o2 hr2 k2 h2 xb hbx
        go_wp2_with (first
          | (at_builtin; refine app60 rfl _ _ rfl (G + 1) _ _ rfl oc3 pn pl xa pl.length xc _ (by simp) rfl (by omega) (by omega) ?_; intro v1 w5 o5 b5 kt5; obtain ⟨a5, cx5, rfl⟩ := o5.form; have c5 := c3.low b5 (by omega); have cf5 := c5.froz 5; have cc5 := c5.cells.2.2.2.2.2))
        have c6 := c5.five (.slice a5 (Q ++ [((pn, pl), Value.slice xa pl.length xc)]).length cx5)
        have a6 : Z6 29 (w5.setCell ⟨G, 5, none⟩ (.slice a5 (Q ++ [((pn, pl), Value.slice xa pl.length xc)]).length cx5)) w.heap.size := (a3.low b5 (by omega)).other (by omega)
        have h6 : RdAt (w5.setCell ⟨G, 5, none⟩ (.slice a5 (Q ++ [((pn, pl), Value.slice xa pl.length xc)]).length cx5)) (w.heap.size + 1) r' := (h3.low b5 (by omega)).other (by omega)
        have kt6 : KT 66 (w2.alloc (.cells #[.int .i64 pn, .slice xa pl.length xc] 60)) (w5.setCell ⟨G, 5, none⟩ (.slice a5 (Q ++ [((pn, pl), Value.slice xa pl.length xc)]).length cx5)) := kt5.tr (KT.set c5 (by decide))
        have oc6 := o5.kp (Kp.set G 5 w5 (.slice a5 (Q ++ [((pn, pl), Value.slice xa pl.length xc)]).length cx5)) (by omega)
        have ap6 : AllP 66 (w5.setCell ⟨G, 5, none⟩ (.slice a5 (Q ++ [((pn, pl), Value.slice xa pl.length xc)]).length cx5)) (G + 1) (Q ++ [((pn, pl), Value.slice xa pl.length xc)]) := fun q hq => by
          rcases List.mem_append.1 hq with hq | hq
          · exact (ap3 q hq).kt kt6
          · simp at hq; subst hq; exact o3.kt kt6
        have bb6 : Bel w (w5.setCell ⟨G, 5, none⟩ (.slice a5 (Q ++ [((pn, pl), Value.slice xa pl.length xc)]).length cx5)) := Below.setCell (bb3.trans (b5.mono (by omega))) (p := ⟨G, 5, none⟩) (by simp only; omega) _
        clear c3 a3 h3 oc3 ap3 o3 bb3 o5 b5 kt5 c5
        have hL : (Q ++ [((pn, pl), Value.slice xa pl.length xc)]).length = Q.length + 1 := by simp
        rw [hL] at a6 c6 h6 oc6 ap6 bb6
        go_roundw
        case rel => exact ⟨k + 1, r', _, Q ++ [((pn, pl), Value.slice xa pl.length xc)], by omega, by go_num, by simp; omega, a6, c6, h6, by omega, oc6, ap6, by simpa using HN.out, bb6⟩
        case measure => simp [intOf]; omega
      · rw [if_pos hcd] at hpg
        have HF : Hid (GR = (M.zeroR, (M.chg r).2.1)) := by show _ = _; rw [HG.out, ← hpg, if_pos hcd]
        clear hpg
        generalize (M.chg r).2.1 = cd at *
        generalize (M.chg r).2.2 = r' at *
        generalize (M.chg r).1 = ch at *
        obtain ⟨pn, pl⟩ := ch
        simp only at HC
        have qc : ((cd : Int) != 0) = true := by first | (simp; done) | (simp; omega)
        have qc2 : ¬ ((cd : Int) = 0) := by omega
        clear z0 z1 z2 z3 z4 z5 y0 y1 y2 y3 y4 y5
        go_wp2_with fail
        refine HC.mono ?_
        rintro e w2 ⟨x, rfl, o2, _, k2⟩
        obtain ⟨xa, xc, rfl, _⟩ := id o2.vals
        have a3 := (a0.kp k2 (by omega)).bel (Bel.al (Below.refl _ w2) (.cells #[.int .i64 pn, .slice xa pl.length xc] 60))
        obtain ⟨z0, z1, z2, z3, z4, z5⟩ := a3.cells
        have y0 := a3.froz 0
        have y1 := a3.froz 1
        have y2 := a3.froz 2
        have y3 := a3.froz 3
        have y4 := a3.froz 4
        have y5 := a3.froz 5
        obtain ⟨v0, v1, v2, v3, v4, v5⟩ := (a3.six (.int .i64 0) (.int .i64 0) (.int .i64 0) (.string ⟨#[]⟩) (.int .i64 0) (.slice none 0 0)).cells
        simp only [six] at v0 v1 v2 v3 v4 v5
        have HB := hid (((Kp.bel hb (by omega) k2).al (.cells #[.int .i64 pn, .slice xa pl.length xc] 60)).six (Nat.le_refl _) (.int .i64 0) (.int .i64 0) (.int .i64 0) (.string ⟨#[]⟩) (.int .i64 0) (.slice none 0 0))
        go_wp2_with fail
        refine bodyPost_ret (v := .tuple #[.agg #[.int .i64 0, .int .i64 0, .int .i64 0, .string ⟨#[]⟩, .int .i64 0, .slice none 0 0], .int .i64 (cd : Int)]) (by simp [results, Try.results11, go_sem, v0, v1, v2, v3, v4, v5]) rfl ⟨.slice none 0 0, [], by rw [HF.out]; try rfl, by rw [HF.out]; try rfl, OwnC.nil _ _ _, fun q hq => by simp at hq, HB.out⟩
    · obtain rfl : k = n6 := by omega
      rw [Nat.sub_self] at hpg
      have hR : R = (Q.map (·.1), 0, r) := hpg.symm
      clear hpg
      subst hR
      simp only [ne_eq, not_true, if_false] at HG
      have HS := short_any (w.heap.size + 1) r wr hrd
      obtain ⟨v0, v1, v2, v3, v4, v5⟩ := (a0.six (.int .i64 0) (.int .i64 0) (.int .i64 0) (.string ⟨#[]⟩) (.int .i64 0) (.slice none 0 0)).cells
      simp only [six] at v0 v1 v2 v3 v4 v5
      have HB := hid (hb.six (Nat.le_refl _) (.int .i64 0) (.int .i64 0) (.int .i64 0) (.string ⟨#[]⟩) (.int .i64 0) (.slice none 0 0))
      by_cases hu : r.2 = true
      · have HF : Hid (GR = (M.zeroR, 3)) := by show _ = _; rw [HG.out, if_pos hu]
        rw [hu] at HS
        clear hu
        go_wp2_with fail
        refine HS.mono ?_
        rintro e w5 ⟨rfl, rfl⟩
        go_wp2_with fail
        refine bodyPost_ret (v := .tuple #[.agg #[.int .i64 0, .int .i64 0, .int .i64 0, .string ⟨#[]⟩, .int .i64 0, .slice none 0 0], .int .i64 3]) (by simp [results, Try.results11, go_sem, v0, v1, v2, v3, v4, v5]) rfl ⟨.slice none 0 0, [], by rw [HF.out]; try rfl, by rw [HF.out]; try rfl, OwnC.nil _ _ _, fun q hq => by simp at hq, HB.out⟩
      · have HE := rest_any (w.heap.size + 1) r wr hrd
        by_cases hv : r.1 = []
        · have q : (M.bs r.1).toList = [] := by rw [M.bs_toList]; exact hv
          obtain ⟨x0, x1, x2, x3, x4, x5⟩ := c0.cells
          by_cases hkd : M.btw 1 (n3 : Int) 4 = true
          · have HF : Hid (GR = (⟨n1, n2, n3, t4, n5, Q.map (·.1)⟩, 0)) := by show _ = _; rw [HG.out, if_neg hu, if_neg (by simp [hv]), if_pos hkd]
            rw [Bool.not_eq_true] at hu
            rw [hu] at HS
            rw [hkd] at HK
            obtain ⟨v0, v1, v2, v3, v4, v5⟩ := (a0.six (.int .i64 (n1 : Int)) (.int .i64 (n2 : Int)) (.int .i64 (n3 : Int)) (.string (M.bs t4)) (.int .i64 (n5 : Int)) (.slice ax Q.length cx)).cells
            simp only [six] at v0 v1 v2 v3 v4 v5
            have HB := hid (hb.six (Nat.le_refl _) (.int .i64 (n1 : Int)) (.int .i64 (n2 : Int)) (.int .i64 (n3 : Int)) (.string (M.bs t4)) (.int .i64 (n5 : Int)) (.slice ax Q.length cx))
            have HOC := hid ((hoc.kp (Kp.six (Kp.refl w.heap.size wr) (.int .i64 (n1 : Int)) (.int .i64 (n2 : Int)) (.int .i64 (n3 : Int)) (.string (M.bs t4)) (.int .i64 (n5 : Int)) (.slice ax Q.length cx)) (by omega)).low (base' := w.heap.size) (by omega))
            have HAP : Hid (AllP 66 (six wr w.heap.size (.int .i64 (n1 : Int)) (.int .i64 (n2 : Int)) (.int .i64 (n3 : Int)) (.string (M.bs t4)) (.int .i64 (n5 : Int)) (.slice ax Q.length cx)) w.heap.size Q) := fun q hq => ((hap q hq).kt (KT.six a0 (by decide) (.int .i64 (n1 : Int)) (.int .i64 (n2 : Int)) (.int .i64 (n3 : Int)) (.string (M.bs t4)) (.int .i64 (n5 : Int)) (.slice ax Q.length cx))).low (by omega)
            clear hu hv hkd hoc hap
            go_wp2_with fail
            refine HS.mono ?_
            rintro e w5 ⟨rfl, rfl⟩
            go_wp2_with fail
            refine HE.mono ?_
            rintro e w6 ⟨rfl, rfl⟩
            go_wp2_with fail
            refine (HK _).mono ?_
            rintro e w7 ⟨rfl, rfl⟩
            go_wp2_with fail
            refine bodyPost_ret (v := .tuple #[.agg #[.int .i64 (n1 : Int), .int .i64 (n2 : Int), .int .i64 (n3 : Int), .string (M.bs t4), .int .i64 (n5 : Int), .slice ax Q.length cx], .int .i64 0]) (by simp [results, Try.results11, go_sem, v0, v1, v2, v3, v4, v5]) rfl ⟨.slice ax Q.length cx, Q, by rw [HF.out]; rfl, by rw [HF.out], HOC.out, HAP.out, HB.out⟩
          · have HF : Hid (GR = (M.zeroR, 2)) := by show _ = _; rw [HG.out, if_neg hu, if_neg (by simp [hv]), if_neg hkd]
            rw [Bool.not_eq_true] at hu hkd
            rw [hu] at HS
            rw [hkd] at HK
            clear hu hv hkd
            go_wp2_with fail
            refine HS.mono ?_
            rintro e w5 ⟨rfl, rfl⟩
            go_wp2_with fail
            refine HE.mono ?_
            rintro e w6 ⟨rfl, rfl⟩
            go_wp2_with fail
            refine (HK _).mono ?_
            rintro e w7 ⟨rfl, rfl⟩
            go_wp2_with fail
            refine bodyPost_ret (v := .tuple #[.agg #[.int .i64 0, .int .i64 0, .int .i64 0, .string ⟨#[]⟩, .int .i64 0, .slice none 0 0], .int .i64 2]) (by simp [results, Try.results11, go_sem, v0, v1, v2, v3, v4, v5]) rfl ⟨.slice none 0 0, [], by rw [HF.out]; try rfl, by rw [HF.out]; try rfl, OwnC.nil _ _ _, fun q hq => by simp at hq, HB.out⟩
        · have HF : Hid (GR = (M.zeroR, 4)) := by show _ = _; rw [HG.out, if_neg hu, if_pos hv]
          have q1 : (M.bs r.1).toList.isEmpty = false := by rw [M.bs_toList]; simpa using hv
          have q2 : ¬ (M.bs r.1).toList = [] := by rw [M.bs_toList]; exact hv
          rw [Bool.not_eq_true] at hu
          rw [hu] at HS
          clear hu hv
          go_wp2_with fail
          refine HS.mono ?_
          rintro e w5 ⟨rfl, rfl⟩
          go_wp2_with fail
          refine HE.mono ?_
          rintro e w6 ⟨rfl, rfl⟩
          go_wp2_with fail
          refine bodyPost_ret (v := .tuple #[.agg #[.int .i64 0, .int .i64 0, .int .i64 0, .string ⟨#[]⟩, .int .i64 0, .slice none 0 0], .int .i64 4]) (by simp [results, Try.results11, go_sem, v0, v1, v2, v3, v4, v5]) rfl ⟨.slice none 0 0, [], by rw [HF.out]; try rfl, by rw [HF.out]; try rfl, OwnC.nil _ _ _, fun q hq => by simp at hq, HB.out⟩
/-- 'Get' of any bytes. -/
theorem getR_any (s : List UInt8) (w : World) (hs : s.length ≤ 60000) :
    Calls Try.prog 11 #[.string (M.bs s)] w fun e w' => ∃ x Q, e = .returned (.tuple #[rv (M.getR s).1 x, .int .i64 ((M.getR s).2 : Int)]) ∧ Q.map (·.1) = (M.getR s).1.pages ∧ OwnC 60 w' w.heap.size x Q ∧ AllP 66 w' w.heap.size Q ∧ Bel w w' := by
  by_cases h : 16384 < s.length
  · exact get_long s w h hs
  · exact get_fits s w h
end Go.Proofs.Ytaepbmcmggnmpaa
