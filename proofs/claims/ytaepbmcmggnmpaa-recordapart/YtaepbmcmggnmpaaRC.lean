/-
  The contract of the document's own Get (concordanceref07), walked.
-/
import Derived.Test.YtaepbmcmggnmpaaGC
import Derived.Test.YtaepbmcmggnmpaaRA
import Derived.Test.YtaepbmcmggnmpaaK
namespace Go.Proofs.Ytaepbmcmggnmpaa
open Go.RowKit
set_option maxRecDepth 100000

theorem info63 : (Try.prog.info? 63).map (fun i => (i.zero, i.size, i.bytes)) = some (some (.agg #[.int .i64 0, .slice none 0 0]), 2, 32) := by kernel_rfl
/-- 'append(l, c)' of one page, l the call's own. -/
theorem app63 {ops : Array Oper} {rest : List Oper} {o : Oper} {a : Act} {Q : Exit → Act → World → Prop} {w : World} (hgd : o.guard = none) (s x : Operand)
    (ho : o.op = .call { callee := .builtin .append, args := #[s, x], argTypes := #[30, 30] }) (base : Nat) (v : Value) (L : List (M.Ch × Value)) (hs : a.eval s = v) (hown : OwnC 63 w base v L) (n : Int) (pl : List M.Pc) (xa : Option Addr) (xn xc : Nat)
    (g : Nat) (hg : g = w.heap.size) (hx : a.eval x = .slice (some ⟨g, 0, none⟩) 1 1) (hlen : L.length ≤ 1000000) (hbase : base ≤ w.heap.size)
    (h : ∀ v' w', OwnC 63 w' base v' (L ++ [((n, pl), .slice xa xn xc)]) → Below base w w' → KT 67 w w' → wpList Try.prog ops Q rest (a.put o.dst v') w') :
    wpList Try.prog ops Q (o :: rest) a (w.alloc (.cells #[.int .i64 n, .slice xa xn xc] 63)) := by
  obtain ⟨i0, hi, hz0, hz1, hz2⟩ := info_parts info63
  subst hg
  refine wpList_append_own _ hgd s x 30 ho base 63 i0 _ 2 32 Try.underlying30 hi hz0 hz1 hz2 rfl (by decide) v L.length _ hs (World.ownsRow.alloc hown _) ⟨w.heap.size, 0, none⟩ 1 1 [.int .i64 n, .slice xa xn xc] hx rfl (cell_two_at _ _ _ _) ?_ (by unfold maxLen; omega) (by omega) (by simp; omega) ?_
  · intro u hu; simp at hu; rcases hu with rfl | rfl <;> rfl
  · intro v' w' h1 h2 _
    refine h v' w' ?_ ?_ ?_
    · unfold OwnC; simpa [cellsC] using h1
    · refine ((Below.refl base w).alloc hbase _).grown h2 (by simp; omega) (fun k hk => ?_)
      exact (World.ownsRow.lt hown k hk).1
    · refine (KT.of_bel (Bel.al (Below.refl _ w) (.cells #[.int .i64 n, .slice xa xn xc] 63))).tr ?_
      obtain ⟨_, ⟨k1, _⟩ | ⟨g', cap', cur', kv, _, kh, _⟩⟩ := World.ownsRow.alloc hown (.cells #[.int .i64 n, .slice xa xn xc] 63)
      · intro k cs fz e
        rw [k1] at h2
        exact (h2.block k (Array.getElem?_eq_some_iff.1 e).1 (by simp [Value.ownBlock])).trans e
      · have : v.ownBlock = some g' := by rw [kv]; rfl
        rw [this] at h2
        exact KT.of_grown h2 kh (by decide)
/-- The document's reader in block g, with an error's number. -/
def InE (w : World) (g : Nat) (l : List UInt8) (e : Int) : Prop := w.heap[g]? = some (.cells #[.string (M.bs l), .int .i64 e] 93 (0, 0))
theorem InE.low {B g : Nat} {w w' : World} {l : List UInt8} {e : Int} (h : InE w g l e) (k : Below B w w') (hb : g < B) : InE w' g l e := (k.block g hb).trans h
theorem InE.other {w : World} {g b j : Nat} {u : Value} {l : List UInt8} {e : Int} (h : InE w g l e) (hne : g ≠ b) : InE (w.setCell ⟨b, j, none⟩ u) g l e := (Below.heap_setCell _ _ _ _ (by simpa using hne)).trans h
theorem InE.bel {w w' : World} {g : Nat} {l : List UInt8} {e : Int} (h : InE w g l e) (k : Bel w w') : InE w' g l e := (k.block g (Array.getElem?_eq_some_iff.1 h).1).trans h
theorem InE.cells {w : World} {g : Nat} {l : List UInt8} {e : Int} (h : InE w g l e) : w.cell? ⟨g, 0, none⟩ = some (.string (M.bs l)) ∧ w.cell? ⟨g, 1, none⟩ = some (.int .i64 e) ∧ w.frozen? ⟨g, 0, none⟩ = false ∧ w.frozen? ⟨g, 1, none⟩ = false :=
  ⟨by rw [Lib.cell_of_heap h]; rfl, by rw [Lib.cell_of_heap h]; rfl, Lib.frozen_of_heap h 0, Lib.frozen_of_heap h 1⟩
theorem InE.sete {w : World} {g : Nat} {l : List UInt8} {e : Int} (h : InE w g l e) (e' : Int) : InE (w.setCell ⟨g, 1, none⟩ (.int .i64 e')) g l e' := by
  unfold InE
  rw [heap_setCell_same w g 1 _ 93 _ h]; rfl
theorem InE.sets {w : World} {g : Nat} {l : List UInt8} {e : Int} (h : InE w g l e) (l' : List UInt8) : InE (w.setCell ⟨g, 0, none⟩ (.string (M.bs l'))) g l' e := by
  unfold InE
  rw [heap_setCell_same w g 0 _ 93 _ h]; rfl
theorem InAt.e {w : World} {g : Nat} {r : M.Rd} (h : InAt w g r) : InE w g r.1 (eN r.2) := h
theorem InAt.other {w : World} {g b j : Nat} {u : Value} {r : M.Rd} (h : InAt w g r) (hne : g ≠ b) : InAt (w.setCell ⟨b, j, none⟩ u) g r := (Below.heap_setCell _ _ _ _ (by simpa using hne)).trans h
theorem B2.other {w : World} {b g j : Nat} {t : TypeId} {u c0 c1 : Value} (h : B2 w b t c0 c1) (hne : b ≠ g) : B2 (w.setCell ⟨g, j, none⟩ u) b t c0 c1 := (Below.heap_setCell _ _ _ _ (by simpa using hne)).trans h
theorem B2.snd {w : World} {b : Nat} {t : TypeId} {c0 c1 : Value} (h : B2 w b t c0 c1) (x : Value) : B2 (w.setCell ⟨b, 1, none⟩ x) b t c0 x := by
  unfold B2
  rw [heap_setCell_same w b 1 _ t _ h]; rfl
theorem Bt.f1 {t : TypeId} {w : World} {b : Nat} {c0 c1 c2 c3 c4 c5 : Value} (h : Bt t w b c0 c1 c2 c3 c4 c5) (x : Value) : Bt t (w.setCell ⟨b, 1, none⟩ x) b c0 x c2 c3 c4 c5 := h.set 1 x
theorem Bt.f2 {t : TypeId} {w : World} {b : Nat} {c0 c1 c2 c3 c4 c5 : Value} (h : Bt t w b c0 c1 c2 c3 c4 c5) (x : Value) : Bt t (w.setCell ⟨b, 2, none⟩ x) b c0 c1 x c3 c4 c5 := h.set 2 x
set_option maxHeartbeats 400000 in
theorem rget_long (s : List UInt8) (w : World) (hs : 16384 < s.length) (hs2 : s.length ≤ 60000) :
    Calls Try.prog 13 #[.string (M.bs s)] w fun e w' => ∃ x Q, e = .returned (.tuple #[rv (M.getR s).1 x, .int .i64 ((M.getR s).2 : Int)]) ∧ Q.map (·.1) = (M.getR s).1.pages ∧ OwnC 63 w' w.heap.size x Q ∧ AllP 67 w' w.heap.size Q ∧ Bel w w' := by
  have HF : Hid (M.getR s = (M.zeroR, 6)) := by show _ = _; unfold M.getR; rw [if_pos hs]
  have hz : (M.bs s).size = s.length := M.bs_size s
  have bW : Bel w (w.alloc (.cells #[.int .i64 0, .int .i64 0, .int .i64 0, .string ⟨#[]⟩, .int .i64 0, .slice none 0 0] 32)) := Bel.al (Below.refl _ _) _
  go_enter Try.func13, Try.ntmps13
  go_wp2_with fail
  refine bodyPost_ret (v := .tuple #[.agg #[.int .i64 0, .int .i64 0, .int .i64 0, .string ⟨#[]⟩, .int .i64 0, .slice none 0 0], .int .i64 6]) (by simp [results, Try.results13, go_sem]) rfl ⟨.slice none 0 0, [], by rw [HF.out]; rfl, by rw [HF.out]; rfl, OwnC.nil _ _ _, fun q hq => by simp at hq, bW⟩
set_option maxHeartbeats 8000000 in
theorem rget_fits (s : List UInt8) (w : World) (hs : ¬ 16384 < s.length) :
    Calls Try.prog 13 #[.string (M.bs s)] w fun e w' => ∃ x Q, e = .returned (.tuple #[rv (M.getR s).1 x, .int .i64 ((M.getR s).2 : Int)]) ∧ Q.map (·.1) = (M.getR s).1.pages ∧ OwnC 63 w' w.heap.size x Q ∧ AllP 67 w' w.heap.size Q ∧ Bel w w' := by
  have HG : Hid (M.getR s = if (M.pgsOf s).2.1 ≠ 0 then (M.zeroR, (M.pgsOf s).2.1)
    else if (M.pgsOf s).2.2.2 = true then (M.zeroR, 3)
    else if (M.pgsOf s).2.2.1 ≠ [] then (M.zeroR, 4)
    else if M.btw 1 (M.hd3 s).1 4 = true then (⟨(M.hd1 s).1, (M.hd2 s).1, (M.hd3 s).1, (M.hd4 s).1, (M.hd5 s).1, (M.pgsOf s).1⟩, 0) else (M.zeroR, 2)) := by show _ = _; unfold M.getR; rw [if_neg hs]
  have HP : Hid (M.pgs (M.hd6 s).1 (M.hd6 s).2 [] = M.pgsOf s) := rfl
  have hsh : (M.hd6 s).2.2 = true → (M.hd6 s).1 = 0 := M.rnum_short _ 1
  have hz : (M.bs s).size = s.length := M.bs_size s
  have l1 : (M.hd1 s).2.1.length ≤ s.length := rnum_len _ _
  have l2 : (M.hd2 s).2.1.length ≤ (M.hd1 s).2.1.length := rnum_len _ _
  have l3 : (M.hd3 s).2.1.length ≤ (M.hd2 s).2.1.length := rnum_len _ _
  have l3a : (M.rnum (M.hd3 s).2 2).1 ≤ 65535 ∧ (M.rnum (M.hd3 s).2 2).2.1.length ≤ (M.hd3 s).2.1.length := rnum_lt _ 2 (by omega)
  have l4 : (M.hd4 s).2.1.length ≤ (M.hd3 s).2.1.length := M.unf_len _
  have l5 : (M.hd5 s).2.1.length ≤ (M.hd4 s).2.1.length := rnum_len _ _
  have l6 : (M.hd6 s).1 ≤ 65535 ∧ (M.hd6 s).2.1.length ≤ (M.hd5 s).2.1.length := rnum_lt _ 1 (by omega)
  have H1 := fun g W h => number_any g (s, false) 6 W h (by omega) (by simp only; omega)
  have H2 := fun g W h => number_any g (M.hd1 s).2 6 W h (by omega) (by omega)
  have H3 := fun g W h => number_any g (M.hd2 s).2 1 W h (by omega) (by omega)
  have H3a := fun g W h => number_any g (M.hd3 s).2 2 W h (by omega) (by omega)
  have H4 := fun g W h => take_any g (M.rnum (M.hd3 s).2 2).2 (M.rnum (M.hd3 s).2 2).1 W h (by omega) (by omega)
  have H5 := fun g W h => number_any g (M.hd4 s).2 2 W h (by omega) (by omega)
  have H6 := fun g W h => number_any g (M.hd5 s).2 1 W h (by omega) (by omega)
  have u1 : M.rnum (s, false) 6 = M.hd1 s := rfl
  have u2 : M.rnum (M.hd1 s).2 6 = M.hd2 s := rfl
  have u3 : M.rnum (M.hd2 s).2 1 = M.hd3 s := rfl
  have u4 : M.rtext (M.rnum (M.hd3 s).2 2).2 (M.rnum (M.hd3 s).2 2).1 = M.hd4 s := rfl
  have u5 : M.rnum (M.hd4 s).2 2 = M.hd5 s := rfl
  have u6 : M.rnum (M.hd5 s).2 1 = M.hd6 s := rfl
  rw [u1] at H1
  rw [u2] at H2
  rw [u3] at H3
  rw [u4] at H4
  rw [u5] at H5
  rw [u6] at H6
  clear u1 u2 u3 u4 u5 u6
  generalize M.getR s = GR at *
  generalize M.pgsOf s = R at *
  generalize (M.hd6 s).2 = r6 at *
  generalize (M.hd6 s).1 = n6 at *
  generalize (M.hd5 s).2 = r5 at *
  generalize (M.hd5 s).1 = n5 at *
  generalize (M.hd4 s).2 = r4 at *
  generalize (M.hd4 s).1 = t4 at *
  generalize (M.rnum (M.hd3 s).2 2).2 = r3a at *
  generalize (M.rnum (M.hd3 s).2 2).1 = n3a at *
  generalize (M.hd3 s).2 = r3 at *
  generalize (M.hd3 s).1 = n3 at *
  generalize (M.hd2 s).2 = r2 at *
  generalize (M.hd2 s).1 = n2 at *
  generalize (M.hd1 s).2 = r1 at *
  generalize (M.hd1 s).1 = n1 at *
  have a0 : Z6 32 (w.alloc (.cells #[.int .i64 0, .int .i64 0, .int .i64 0, .string ⟨#[]⟩, .int .i64 0, .slice none 0 0] 32)) w.heap.size := heap_alloc_new w _
  have bW : Bel w (w.alloc (.cells #[.int .i64 0, .int .i64 0, .int .i64 0, .string ⟨#[]⟩, .int .i64 0, .slice none 0 0] 32)) := Bel.al (Below.refl _ _) _
  have zW : (w.alloc (.cells #[.int .i64 0, .int .i64 0, .int .i64 0, .string ⟨#[]⟩, .int .i64 0, .slice none 0 0] 32)).heap.size = w.heap.size + 1 := by simp
  have hI : InAt ((w.alloc (.cells #[.int .i64 0, .int .i64 0, .int .i64 0, .string ⟨#[]⟩, .int .i64 0, .slice none 0 0] 32)).alloc (.cells #[.string (M.bs s), .int .i64 0] 93)) (w.heap.size + 1) (s, false) := by
    rw [← zW]; exact heap_alloc_new _ _
  have a1 := a0.bel (Bel.al (Below.refl _ (w.alloc (.cells #[.int .i64 0, .int .i64 0, .int .i64 0, .string ⟨#[]⟩, .int .i64 0, .slice none 0 0] 32))) (.cells #[.string (M.bs s), .int .i64 0] 93))
  have bb1 := bW.al (.cells #[.string (M.bs s), .int .i64 0] 93)
  clear a0 bW zW
  go_enter Try.func13, Try.ntmps13
  go_wp2_with fail
  refine (H1 _ _ hI).mono ?_
  rintro e w2 ⟨rfl, h2, k2⟩
  have a2 := a1.kp k2 (by omega)
  have bb2 := Kp.bel bb1 (by omega) k2
  have z2 := h2.lt
  clear hI a1 bb1 k2 H1
  have hb3 : Bel w2 (w2.alloc (.cells #[.int .i64 (n1 : Int), .int .i64 0, .int .i64 0, .string ⟨#[]⟩, .int .i64 0, .slice none 0 0] 32)) := Bel.al (Below.refl _ _) _
  have c3 : Bt 32 (w2.alloc (.cells #[.int .i64 (n1 : Int), .int .i64 0, .int .i64 0, .string ⟨#[]⟩, .int .i64 0, .slice none 0 0] 32)) w2.heap.size (.int .i64 (n1 : Int)) (.int .i64 0) (.int .i64 0) (.string ⟨#[]⟩) (.int .i64 0) (.slice none 0 0) := heap_alloc_new w2 _
  have a3 := a2.bel hb3
  have h3 := h2.bel hb3
  have bb3 := bb2.tr hb3
  clear a2 h2 bb2 hb3
  go_wp2_with fail
  generalize hG : w2.heap.size = G at *
  generalize w2.alloc (.cells #[.int .i64 (n1 : Int), .int .i64 0, .int .i64 0, .string ⟨#[]⟩, .int .i64 0, .slice none 0 0] 32) = W3 at *
  have zG : G < W3.heap.size := c3.lt
  refine (H2 _ _ h3).mono ?_
  rintro e w4a ⟨rfl, h4a, k4⟩
  have c4a := c3.kp k4 (by omega)
  have a4a := a3.kp k4 (by omega)
  have bb4a := Kp.bel bb3 (by omega) k4
  have sc := c4a.cells
  have yc := c4a.froz 1
  have c4 := c4a.f1 (.int .i64 (n2 : Int))
  have a4 : Z6 32 (w4a.setCell ⟨G, 1, none⟩ (.int .i64 (n2 : Int))) w.heap.size := a4a.other (by omega)
  have h4 : InAt (w4a.setCell ⟨G, 1, none⟩ (.int .i64 (n2 : Int))) (w.heap.size + 1) r2 := h4a.other (by omega)
  have bb4 : Bel w (w4a.setCell ⟨G, 1, none⟩ (.int .i64 (n2 : Int))) := Below.setCell bb4a (p := ⟨G, 1, none⟩) (by simp only; omega) _
  obtain ⟨s0, s1, s2, s3, s4, s5⟩ := sc
  clear c3 a3 h3 bb3 k4 c4a a4a h4a bb4a H2
  go_wp2_with fail
  clear s0 s1 s2 s3 s4 s5 yc
  generalize w4a.setCell ⟨G, 1, none⟩ (.int .i64 (n2 : Int)) = W4 at *
  refine (H3 _ _ h4).mono ?_
  rintro e w5a ⟨rfl, h5a, k5⟩
  have c5a := c4.kp k5 (by omega)
  have a5a := a4.kp k5 (by omega)
  have bb5a := Kp.bel bb4 (by omega) k5
  have sc := c5a.cells
  have yc := c5a.froz 2
  have c5 := c5a.f2 (.int .i64 (n3 : Int))
  have a5 : Z6 32 (w5a.setCell ⟨G, 2, none⟩ (.int .i64 (n3 : Int))) w.heap.size := a5a.other (by omega)
  have h5 : InAt (w5a.setCell ⟨G, 2, none⟩ (.int .i64 (n3 : Int))) (w.heap.size + 1) r3 := h5a.other (by omega)
  have bb5 : Bel w (w5a.setCell ⟨G, 2, none⟩ (.int .i64 (n3 : Int))) := Below.setCell bb5a (p := ⟨G, 2, none⟩) (by simp only; omega) _
  obtain ⟨s0, s1, s2, s3, s4, s5⟩ := sc
  clear c4 a4 h4 bb4 k5 c5a a5a h5a bb5a H3
  go_wp2_with fail
  clear s0 s1 s2 s3 s4 s5 yc
  generalize w5a.setCell ⟨G, 2, none⟩ (.int .i64 (n3 : Int)) = W5 at *
  refine (H3a _ _ h5).mono ?_
  rintro e w6 ⟨rfl, h6, k6⟩
  have c6 := c5.kp k6 (by omega)
  have a6 := a5.kp k6 (by omega)
  have bb6 := Kp.bel bb5 (by omega) k6
  clear c5 a5 h5 bb5 k6 H3a
  go_wp2_with fail
  refine (H4 _ _ h6).mono ?_
  rintro e w7a ⟨rfl, h7a, k7⟩
  have c7a := c6.kp k7 (by omega)
  have a7a := a6.kp k7 (by omega)
  have bb7a := Kp.bel bb6 (by omega) k7
  have sc := c7a.cells
  have yc := c7a.froz 3
  have c7 := c7a.f3 (.string (M.bs t4))
  have a7 : Z6 32 (w7a.setCell ⟨G, 3, none⟩ (.string (M.bs t4))) w.heap.size := a7a.other (by omega)
  have h7 : InAt (w7a.setCell ⟨G, 3, none⟩ (.string (M.bs t4))) (w.heap.size + 1) r4 := h7a.other (by omega)
  have bb7 : Bel w (w7a.setCell ⟨G, 3, none⟩ (.string (M.bs t4))) := Below.setCell bb7a (p := ⟨G, 3, none⟩) (by simp only; omega) _
  obtain ⟨s0, s1, s2, s3, s4, s5⟩ := sc
  clear c6 a6 h6 bb6 k7 c7a a7a h7a bb7a H4
  go_wp2_with fail
  clear s0 s1 s2 s3 s4 s5 yc
  generalize w7a.setCell ⟨G, 3, none⟩ (.string (M.bs t4)) = W7 at *
  refine (H5 _ _ h7).mono ?_
  rintro e w8a ⟨rfl, h8a, k8⟩
  have c8a := c7.kp k8 (by omega)
  have a8a := a7.kp k8 (by omega)
  have bb8a := Kp.bel bb7 (by omega) k8
  have sc := c8a.cells
  have yc := c8a.froz 4
  have c8 := c8a.f4 (.int .i64 (n5 : Int))
  have a8 : Z6 32 (w8a.setCell ⟨G, 4, none⟩ (.int .i64 (n5 : Int))) w.heap.size := a8a.other (by omega)
  have h8 : InAt (w8a.setCell ⟨G, 4, none⟩ (.int .i64 (n5 : Int))) (w.heap.size + 1) r5 := h8a.other (by omega)
  have bb8 : Bel w (w8a.setCell ⟨G, 4, none⟩ (.int .i64 (n5 : Int))) := Below.setCell bb8a (p := ⟨G, 4, none⟩) (by simp only; omega) _
  obtain ⟨s0, s1, s2, s3, s4, s5⟩ := sc
  clear c7 a7 h7 bb7 k8 c8a a8a h8a bb8a H5
  go_wp2_with fail
  clear s0 s1 s2 s3 s4 s5 yc
  generalize w8a.setCell ⟨G, 4, none⟩ (.int .i64 (n5 : Int)) = W8 at *
  refine (H6 _ _ h8).mono ?_
  rintro e w9 ⟨rfl, h9, k9⟩
  have c9 := c8.kp k9 (by omega)
  have a9 := a8.kp k9 (by omega)
  have bb9 := Kp.bel bb8 (by omega) k9
  have z9 : G < w9.heap.size := c9.lt
  clear c8 a8 h8 bb8 k9 H6
  go_wp2_with fail
  go_loopw [7] (fun i wr => ∃ (k : Nat), k ≤ n6 ∧ i = .int .i64 k ∧ Z6 32 wr w.heap.size ∧ Bel w wr ∧
      ((∃ (r : M.Rd) (v : Value) (Q : List (M.Ch × Value)), r.2 = false ∧ Q.length ≤ k ∧ Bt 32 wr G (.int .i64 (n1 : Int)) (.int .i64 (n2 : Int)) (.int .i64 (n3 : Int)) (.string (M.bs t4)) (.int .i64 (n5 : Int)) v ∧ InAt wr (w.heap.size + 1) r ∧ r.1.length ≤ 20000 ∧
        OwnC 63 wr (G + 1) v Q ∧ AllP 67 wr (G + 1) Q ∧ M.pgs (n6 - k) r (Q.map (·.1)) = R) ∨
       (∃ (cd : Nat) (l : List UInt8), cd ≠ 0 ∧ InE wr (w.heap.size + 1) l (cd : Int) ∧ GR = (M.zeroR, cd)))) (fun i _ => n6 - (intOf i).toNat)
  case atStart =>
    refine ⟨0, Nat.zero_le _, rfl, a9, bb9, ?_⟩
    by_cases h6 : r6.2 = true
    · have := hsh h6
      subst this
      have hR : R = ([], 0, r6) := HP.out.symm
      exact .inr ⟨3, r6.1, by omega, by have := h9.e; rw [h6] at this; exact this, by rw [HG.out, hR]; simp [h6]⟩
    · exact .inl ⟨r6, _, [], by simpa using h6, by simp, c9, h9, by omega, OwnC.nil _ _ _, fun q hq => by simp at hq, HP.out⟩
  case round =>
    clear a9 c9 h9 bb9 z9 HP hsh
    obtain ⟨k, hk, rfl, a0, hb, hcase⟩ := hrel
    rcases hcase with ⟨r, v, Q, hrf, hQ, c0, hin, hrl, hoc, hap, hpg⟩ | ⟨cd, l, hcd, hin, hF⟩
    · have hcz := c0.lt
      obtain ⟨ax, cx, rfl⟩ := hoc.form
      have eE : eN r.2 = 0 := by rw [hrf]; rfl
      obtain ⟨i0, i1, j0, j1⟩ := hin.cells
      rw [eE] at i1
      by_cases hlt : k < n6
      · rw [show n6 - k = (n6 - (k + 1)) + 1 by omega, M.pgs_step] at hpg
        have hn2 := rnum_lt r 2 (by omega)
        have H := number_any (w.heap.size + 1) r 2 wr hin (by omega) (by omega)
        have hgz := hin.lt
        have hlow : ∀ j, (Value.slice ax Q.length cx).ownBlock = some j → j < wr.heap.size := fun j hj => (World.ownsRow.lt hoc j hj).2
        by_cases hsh : (M.rnum r 2).2.2 = true
        · have hch : (M.chg r).2.1 = 3 := by unfold M.chg; rw [if_pos hsh]
          have HF : Hid (GR = (M.zeroR, 3)) := by
            show _ = _
            rw [if_pos (by rw [hch]; decide)] at hpg
            rw [HG.out, ← hpg, hch]; rfl
          clear hpg hch
          generalize (M.rnum r 2).2 = r1 at *
          generalize (M.rnum r 2).1 = nn at *
          have eE2 : eN r1.2 = 3 := by rw [hsh]; rfl
          go_wp2_with fail
          refine H.mono ?_
          rintro e w2 ⟨rfl, h2, k2⟩
          have z2 := k2.size
          have hbx : Bel w2 (w2.alloc (.cells #[.int .i64 (nn : Int), .slice none 0 0] 63)) := Bel.al (Below.refl _ _) _
          have a3 := (a0.kp k2 (by omega)).bel hbx
          have c3 := (c0.kp k2 (by omega)).bel hbx
          have i3 := (h2.bel hbx).e
          rw [eE2] at i3
          obtain ⟨i30, i31, _, _⟩ := i3.cells
          have oc3 := (hoc.kp k2 (by omega)).bel hbx
          have bb3 := (Kp.bel hb (by omega) k2).tr hbx
          have x5 := c3.cells.2.2.2.2.2
          have xb : B2 (w2.alloc (.cells #[.int .i64 (nn : Int), .slice none 0 0] 63)) w2.heap.size 63 (.int .i64 (nn : Int)) (.slice none 0 0) := heap_alloc_new w2 _
          obtain ⟨⟨xb0, xb1⟩, _⟩ := xb.cells
          clear a0 c0 hin hoc hap hb H h2 k2 xb hbx i0 i1 j0 j1
          go_wp2_with (first
            | (at_builtin; refine app63 rfl _ _ rfl (G + 1) _ _ rfl oc3 (nn : Int) [] none 0 0 _ (by simp) rfl (by omega) (by first | (simp; done) | (simp; omega)) ?_; intro v1 w5 o5 b5 kt5; obtain ⟨a5, cx5, rfl⟩ := o5.form; have c5 := c3.low b5 (by omega); have cf5 := c5.froz 5; have cc5 := c5.cells.2.2.2.2.2))
          have a6 := (a3.low b5 (by omega)).other (j := 5) (u := .slice a5 (Q ++ [(((nn : Int), []), Value.slice none 0 0)]).length cx5) (show w.heap.size ≠ G by omega)
          have i6 := (i3.low b5 (by omega)).other (j := 5) (u := .slice a5 (Q ++ [(((nn : Int), []), Value.slice none 0 0)]).length cx5) (show w.heap.size + 1 ≠ G by omega)
          have bb6 : Bel w (w5.setCell ⟨G, 5, none⟩ (.slice a5 (Q ++ [(((nn : Int), []), Value.slice none 0 0)]).length cx5)) := Below.setCell (bb3.trans (b5.mono (by omega))) (p := ⟨G, 5, none⟩) (by simp only; omega) _
          have hL : (Q ++ [(((nn : Int), ([] : List M.Pc)), Value.slice none 0 0)]).length = Q.length + 1 := by simp
          rw [hL] at a6 i6 bb6
          clear c3 a3 i3 oc3 bb3 o5 b5 kt5 c5
          go_roundw
          case rel => exact ⟨k + 1, by omega, by go_num, a6, bb6, .inr ⟨3, r1.1, by omega, i6, HF.out⟩⟩
          case measure => simp [intOf]; omega
        · rw [Bool.not_eq_true] at hsh
          have HG2 := fun W => rgetP_any (M.rnum r 2).2.1 W (by omega)
          by_cases hcd : (M.getP (M.rnum r 2).2.1).2.2 = 0
          · have hu := (M.putP_getP (M.rnum r 2).2.1 (M.getP (M.rnum r 2).2.1).1 (M.getP (M.rnum r 2).2.1).2.1 (by rw [← hcd])).2.1
            have hch : M.chg r = ((((M.rnum r 2).1 : Int), (M.getP (M.rnum r 2).2.1).1), 0, ((M.rnum r 2).2.1.drop (M.getP (M.rnum r 2).2.1).2.1, false)) := by
              unfold M.chg
              rw [if_neg (by rw [hsh]; decide), if_neg (by simp [hcd])]
              unfold M.rtext
              rw [if_neg (by rintro (h | h); rw [hsh] at h; cases h; omega), hsh]
            rw [hch, if_neg (by simp)] at hpg
            have HN := hid hpg
            rw [hcd] at HG2
            have hx2 : (M.bs (M.rnum r 2).2.1).extract (M.getP (M.rnum r 2).2.1).2.1 (M.rnum r 2).2.1.length = M.bs ((M.rnum r 2).2.1.drop (M.getP (M.rnum r 2).2.1).2.1) := by rw [sub_bs, List.take_of_length_le (by rw [List.length_drop]; omega)]
            have hzr : (M.bs (M.rnum r 2).2.1).size = (M.rnum r 2).2.1.length := M.bs_size _
            have hdl : ((M.rnum r 2).2.1.drop (M.getP (M.rnum r 2).2.1).2.1).length ≤ 20000 := by rw [List.length_drop]; omega
            clear hpg hch hcd
            generalize (M.getP (M.rnum r 2).2.1).1 = pl at *
            generalize (M.getP (M.rnum r 2).2.1).2.1 = u at *
            generalize (M.rnum r 2).2 = r1 at *
            generalize (M.rnum r 2).1 = nn at *
            generalize r1.1.drop u = rest at *
            have eE2 : eN r1.2 = 0 := by rw [hsh]; rfl
            have p1 : (u : Int) ≤ (r1.1.length : Int) := by omega
            have p2 : (0 : Int) ≤ (u : Int) := by omega
            go_wp2_with fail
            refine H.mono ?_
            rintro e w2 ⟨rfl, h2, k2⟩
            have z2 := k2.size
            have hbx : Bel w2 (w2.alloc (.cells #[.int .i64 (nn : Int), .slice none 0 0] 63)) := Bel.al (Below.refl _ _) _
            have a3 := (a0.kp k2 (by omega)).bel hbx
            have c3 := (c0.kp k2 (by omega)).bel hbx
            have i3 := (h2.bel hbx).e
            rw [eE2] at i3
            obtain ⟨i30, i31, _, _⟩ := i3.cells
            have oc3 := (hoc.kp k2 (by omega)).bel hbx
            have ap3 := (hap.kt (KT.of_kp k2 hin (by decide))).kt (KT.of_bel hbx)
            have bb3 := (Kp.bel hb (by omega) k2).tr hbx
            have xb : B2 (w2.alloc (.cells #[.int .i64 (nn : Int), .slice none 0 0] 63)) w2.heap.size 63 (.int .i64 (nn : Int)) (.slice none 0 0) := heap_alloc_new w2 _
            have zz : (w2.alloc (.cells #[.int .i64 (nn : Int), .slice none 0 0] 63)).heap.size = w2.heap.size + 1 := by simp
            clear a0 c0 hin hoc hap hb H h2 k2 hbx i0 i1 j0 j1
            go_wp2_with fail
            refine (HG2 _).mono ?_
            rintro e w3 ⟨x, rfl, o4, b4⟩
            obtain ⟨xa, xc, rfl, _⟩ := id o4.vals
            have z4 := b4.size
            rw [zz] at z4 o4
            have a4 := a3.bel b4
            have c4 := c3.bel b4
            have i4 := i3.bel b4
            have oc4 := oc3.bel b4
            have ap4 := ap3.kt (KT.of_bel b4)
            have bb4 := bb3.tr b4
            have xb4 := xb.bel b4
            obtain ⟨i40, i41, f40, f41⟩ := i4.cells
            obtain ⟨⟨xb0, xb1⟩, g0, g1⟩ := xb4.cells
            have x5 := c4.cells.2.2.2.2.2
            generalize hcb : w2.heap.size = cb at *
            have n1 : ¬ (cb = w.heap.size + 1) := by omega
            have n2 : ¬ (w.heap.size + 1 = cb) := by omega
            have n3 : ¬ (G = w.heap.size + 1) := by omega
            have n4 : ¬ (w.heap.size + 1 = G) := by omega
            have n5 : ¬ (G = cb) := by omega
            have n6 : ¬ (cb = G) := by omega
            have i6 := ((i4.sete 0).other (b := cb) (j := 1) (u := .slice xa pl.length xc) (by omega)).sets rest
            have a6 := ((a4.other (g := w.heap.size + 1) (j := 1) (u := .int .i64 0) (by omega)).other (g := cb) (j := 1) (u := .slice xa pl.length xc) (by omega)).other (g := w.heap.size + 1) (j := 0) (u := .string (M.bs rest)) (by omega)
            have c6 := ((c4.other (g := w.heap.size + 1) (j := 1) (u := .int .i64 0) (by omega)).other (g := cb) (j := 1) (u := .slice xa pl.length xc) (by omega)).other (g := w.heap.size + 1) (j := 0) (u := .string (M.bs rest)) (by omega)
            have xb5 : B2 (w3.setCell ⟨w.heap.size + 1, 1, none⟩ (.int .i64 0)) cb 63 (.int .i64 (nn : Int)) (.slice none 0 0) := xb4.other (by omega)
            have kt6 : KT 67 w3 (((w3.setCell ⟨w.heap.size + 1, 1, none⟩ (.int .i64 0)).setCell ⟨cb, 1, none⟩ (.slice xa pl.length xc)).setCell ⟨w.heap.size + 1, 0, none⟩ (.string (M.bs rest))) :=
              ((KT.set i4 (by decide)).tr (KT.set xb5 (by decide))).tr (KT.set ((i4.sete 0).other (b := cb) (j := 1) (u := .slice xa pl.length xc) (by omega)) (by decide))
            have oc6 : OwnC 63 (((w3.setCell ⟨w.heap.size + 1, 1, none⟩ (.int .i64 0)).setCell ⟨cb, 1, none⟩ (.slice xa pl.length xc)).setCell ⟨w.heap.size + 1, 0, none⟩ (.string (M.bs rest))) (G + 1) (.slice ax Q.length cx) Q :=
              OwnC.kp (World.ownsRow.kept (OwnC.kp oc4 (Kp.set (w.heap.size + 1) 1 w3 (.int .i64 0)) (by omega)) (Kp.set cb 1 _ (.slice xa pl.length xc)).grown (.inr fun e => by have := hlow _ e; omega)) (Kp.set (w.heap.size + 1) 0 _ (.string (M.bs rest))) (by omega)
            have bb6 : Bel w (((w3.setCell ⟨w.heap.size + 1, 1, none⟩ (.int .i64 0)).setCell ⟨cb, 1, none⟩ (.slice xa pl.length xc)).setCell ⟨w.heap.size + 1, 0, none⟩ (.string (M.bs rest))) := Below.setCell (Below.setCell (Below.setCell bb4 (p := ⟨w.heap.size + 1, 1, none⟩) (by simp only; omega) _) (p := ⟨cb, 1, none⟩) (by simp only; omega) _) (p := ⟨w.heap.size + 1, 0, none⟩) (by simp only; omega) _
            have z6 : (((w3.setCell ⟨w.heap.size + 1, 1, none⟩ (.int .i64 0)).setCell ⟨cb, 1, none⟩ (.slice xa pl.length xc)).setCell ⟨w.heap.size + 1, 0, none⟩ (.string (M.bs rest))).heap.size = w3.heap.size := by simp [World.setCell]
            have x5c := c6.cells.2.2.2.2.2
            have xc0 := ((xb5.snd (.slice xa pl.length xc)).other (g := w.heap.size + 1) (j := 0) (u := .string (M.bs rest)) (by omega)).cells.1
            obtain ⟨xc0, xc1⟩ := xc0
            have HO6 := hid ((o4.kt kt6).low (base' := G + 1) (by omega))
            have HAP6 := hid (ap4.kt kt6)
            have HI6 := hid i6
            have HA6 := hid a6
            have HC6 := hid c6
            have HOC6 := hid oc6
            have HBB6 := hid bb6
            have HZ6 := hid z6
            clear kt6 oc6 ap4 oc4 o4 i6 a6 c6 bb6 z6 xb5 xb4 xb a4 c4 i4 bb4 a3 c3 i3 oc3 ap3 bb3 b4 HG2
            go_wp2_with (first
              | (at_builtin; refine app63 rfl _ _ rfl (G + 1) _ _ rfl HOC6.out (nn : Int) pl xa pl.length xc _ (by simp) rfl (by omega) (by rw [HZ6.out]; omega) ?_; intro v1 w5 o5 b5 kt5; obtain ⟨a5, cx5, rfl⟩ := o5.form; have c5 := HC6.out.low b5 (by omega); have cf5 := c5.froz 5; have cc5 := c5.cells.2.2.2.2.2))
            have c7 := c5.five (.slice a5 (Q ++ [(((nn : Int), pl), Value.slice xa pl.length xc)]).length cx5)
            have a7 := (HA6.out.low b5 (by omega)).other (j := 5) (u := .slice a5 (Q ++ [(((nn : Int), pl), Value.slice xa pl.length xc)]).length cx5) (show w.heap.size ≠ G by omega)
            have i7 := (HI6.out.low b5 (by omega)).other (j := 5) (u := .slice a5 (Q ++ [(((nn : Int), pl), Value.slice xa pl.length xc)]).length cx5) (show w.heap.size + 1 ≠ G by omega)
            have kt7 := kt5.tr (KT.set (o := 5) (u := .slice a5 (Q ++ [(((nn : Int), pl), Value.slice xa pl.length xc)]).length cx5) c5 (show (32 : TypeId) ≠ 67 by decide))
            have oc7 := o5.kp (Kp.set G 5 w5 (.slice a5 (Q ++ [(((nn : Int), pl), Value.slice xa pl.length xc)]).length cx5)) (by omega)
            have ap7 : AllP 67 (w5.setCell ⟨G, 5, none⟩ (.slice a5 (Q ++ [(((nn : Int), pl), Value.slice xa pl.length xc)]).length cx5)) (G + 1) (Q ++ [(((nn : Int), pl), Value.slice xa pl.length xc)]) := fun q hq => by
              rcases List.mem_append.1 hq with hq | hq
              · exact (HAP6.out q hq).kt kt7
              · simp at hq; subst hq; exact HO6.out.kt kt7
            have bb7 : Bel w (w5.setCell ⟨G, 5, none⟩ (.slice a5 (Q ++ [(((nn : Int), pl), Value.slice xa pl.length xc)]).length cx5)) := Below.setCell (HBB6.out.trans (b5.mono (by omega))) (p := ⟨G, 5, none⟩) (by simp only; omega) _
            have hL : (Q ++ [(((nn : Int), pl), Value.slice xa pl.length xc)]).length = Q.length + 1 := by simp
            rw [hL] at a7 c7 i7 oc7 ap7 bb7
            clear o5 b5 kt5 c5 kt7
            go_roundw
            case rel => exact ⟨k + 1, by omega, by go_num, a7, bb7, .inl ⟨(rest, false), _, Q ++ [(((nn : Int), pl), Value.slice xa pl.length xc)], rfl, by simp; omega, c7, i7, by omega, oc7, ap7, by simpa using HN.out⟩⟩
            case measure => simp [intOf]; omega
          · have hch : (M.chg r).2.1 = (M.getP (M.rnum r 2).2.1).2.2 := by unfold M.chg; rw [if_neg (by rw [hsh]; decide), if_pos hcd]
            have HF : Hid (GR = (M.zeroR, (M.getP (M.rnum r 2).2.1).2.2)) := by
              show _ = _
              rw [if_pos (by rw [hch]; exact hcd)] at hpg
              rw [HG.out, ← hpg, hch, if_pos hcd]
            clear hpg hch
            generalize (M.getP (M.rnum r 2).2.1).1 = pl at *
            generalize (M.getP (M.rnum r 2).2.1).2.1 = u at *
            generalize (M.getP (M.rnum r 2).2.1).2.2 = cd at *
            generalize (M.rnum r 2).2 = r1 at *
            generalize (M.rnum r 2).1 = nn at *
            have eE2 : eN r1.2 = 0 := by rw [hsh]; rfl
            have qc : ((cd : Int) == 0) = false := by first | (simp; done) | (simp; omega)
            have qc2 : ¬ ((cd : Int) = 0) := by omega
            go_wp2_with fail
            refine H.mono ?_
            rintro e w2 ⟨rfl, h2, k2⟩
            have z2 := k2.size
            have hbx : Bel w2 (w2.alloc (.cells #[.int .i64 (nn : Int), .slice none 0 0] 63)) := Bel.al (Below.refl _ _) _
            have a3 := (a0.kp k2 (by omega)).bel hbx
            have c3 := (c0.kp k2 (by omega)).bel hbx
            have i3 := (h2.bel hbx).e
            rw [eE2] at i3
            obtain ⟨i30, i31, _, _⟩ := i3.cells
            have oc3 := (hoc.kp k2 (by omega)).bel hbx
            have bb3 := (Kp.bel hb (by omega) k2).tr hbx
            have xb : B2 (w2.alloc (.cells #[.int .i64 (nn : Int), .slice none 0 0] 63)) w2.heap.size 63 (.int .i64 (nn : Int)) (.slice none 0 0) := heap_alloc_new w2 _
            have zz : (w2.alloc (.cells #[.int .i64 (nn : Int), .slice none 0 0] 63)).heap.size = w2.heap.size + 1 := by simp
            clear a0 c0 hin hoc hap hb H h2 k2 hbx i0 i1 j0 j1
            go_wp2_with fail
            refine (HG2 _).mono ?_
            rintro e w3 ⟨x, rfl, o4, b4⟩
            obtain ⟨xa, xc, rfl, _⟩ := id o4.vals
            have z4 := b4.size
            rw [zz] at z4
            have a4 := a3.bel b4
            have c4 := c3.bel b4
            have i4 := i3.bel b4
            have oc4 := oc3.bel b4
            have bb4 := bb3.tr b4
            have xb4 := xb.bel b4
            obtain ⟨i40, i41, f40, f41⟩ := i4.cells
            obtain ⟨⟨xb0, xb1⟩, _⟩ := xb4.cells
            have x5 := c4.cells.2.2.2.2.2
            generalize hcb : w2.heap.size = cb at *
            have n1 : ¬ (cb = w.heap.size + 1) := by omega
            have n2 : ¬ (w.heap.size + 1 = cb) := by omega
            have n3 : ¬ (G = w.heap.size + 1) := by omega
            have n4 : ¬ (w.heap.size + 1 = G) := by omega
            have HI6 := hid (i4.sete (cd : Int))
            have HA6 := hid (a4.other (g := w.heap.size + 1) (j := 1) (u := .int .i64 (cd : Int)) (by omega))
            have HC6 := hid (c4.other (g := w.heap.size + 1) (j := 1) (u := .int .i64 (cd : Int)) (by omega))
            have HOC6 := hid (oc4.kp (Kp.set (w.heap.size + 1) 1 w3 (.int .i64 (cd : Int))) (by omega))
            have HBB6 : Hid (Bel w (w3.setCell ⟨w.heap.size + 1, 1, none⟩ (.int .i64 (cd : Int)))) := Below.setCell bb4 (p := ⟨w.heap.size + 1, 1, none⟩) (by simp only; omega) _
            have HZ6 : Hid ((w3.setCell ⟨w.heap.size + 1, 1, none⟩ (.int .i64 (cd : Int))).heap.size = w3.heap.size) := by show _ = _; simp [World.setCell]
            clear oc4 o4 xb4 xb a4 c4 i4 bb4 a3 c3 i3 oc3 bb3 b4 HG2
            go_wp2_with (first
              | (at_builtin; refine app63 rfl _ _ rfl (G + 1) _ _ rfl HOC6.out (nn : Int) [] none 0 0 _ (by simp) rfl (by omega) (by rw [HZ6.out]; omega) ?_; intro v1 w5 o5 b5 kt5; obtain ⟨a5, cx5, rfl⟩ := o5.form; have c5 := HC6.out.low b5 (by omega); have cf5 := c5.froz 5; have cc5 := c5.cells.2.2.2.2.2))
            have a7 := (HA6.out.low b5 (by omega)).other (j := 5) (u := .slice a5 (Q ++ [(((nn : Int), []), Value.slice none 0 0)]).length cx5) (show w.heap.size ≠ G by omega)
            have i7 := (HI6.out.low b5 (by omega)).other (j := 5) (u := .slice a5 (Q ++ [(((nn : Int), []), Value.slice none 0 0)]).length cx5) (show w.heap.size + 1 ≠ G by omega)
            have bb7 : Bel w (w5.setCell ⟨G, 5, none⟩ (.slice a5 (Q ++ [(((nn : Int), []), Value.slice none 0 0)]).length cx5)) := Below.setCell (HBB6.out.trans (b5.mono (by omega))) (p := ⟨G, 5, none⟩) (by simp only; omega) _
            have hL : (Q ++ [(((nn : Int), ([] : List M.Pc)), Value.slice none 0 0)]).length = Q.length + 1 := by simp
            rw [hL] at a7 i7 bb7
            clear o5 b5 kt5 c5
            go_roundw
            case rel => exact ⟨k + 1, by omega, by go_num, a7, bb7, .inr ⟨cd, r1.1, hcd, i7, HF.out⟩⟩
            case measure => simp [intOf]; omega
      · obtain rfl : k = n6 := by omega
        rw [Nat.sub_self] at hpg
        have hR : R = (Q.map (·.1), 0, r) := hpg.symm
        clear hpg
        subst hR
        simp only [ne_eq, not_true, if_false, hrf, Bool.false_eq_true] at HG
        obtain ⟨z0, z1, z2, z3, z4, z5⟩ := a0.cells
        have y0 := a0.froz 0
        have y1 := a0.froz 1
        have y2 := a0.froz 2
        have y3 := a0.froz 3
        have y4 := a0.froz 4
        have y5 := a0.froz 5
        by_cases hv : r.1 = []
        · have q : (M.bs r.1).toList = [] := by rw [M.bs_toList]; exact hv
          obtain ⟨x0, x1, x2, x3, x4, x5⟩ := c0.cells
          by_cases hkd : M.btw 1 (n3 : Int) 4 = true
          · have HF : Hid (GR = (⟨n1, n2, n3, t4, n5, Q.map (·.1)⟩, 0)) := by show _ = _; rw [HG.out, if_neg (by simp [hv]), if_pos hkd]
            have hk2 := (M.btw_iff _ _ _).1 hkd
            have e1 : ¬ ((n3 : Int) < 1) := by omega
            have e2 : ¬ ((4 : Int) < (n3 : Int)) := by omega
            have HV := hid (a0.six (.int .i64 (n1 : Int)) (.int .i64 (n2 : Int)) (.int .i64 (n3 : Int)) (.string (M.bs t4)) (.int .i64 (n5 : Int)) (.slice ax Q.length cx)).cells
            have HB := hid (hb.six (Nat.le_refl _) (.int .i64 (n1 : Int)) (.int .i64 (n2 : Int)) (.int .i64 (n3 : Int)) (.string (M.bs t4)) (.int .i64 (n5 : Int)) (.slice ax Q.length cx))
            have HOC := hid ((hoc.kp (Kp.six (Kp.refl w.heap.size wr) (.int .i64 (n1 : Int)) (.int .i64 (n2 : Int)) (.int .i64 (n3 : Int)) (.string (M.bs t4)) (.int .i64 (n5 : Int)) (.slice ax Q.length cx)) (by omega)).low (base' := w.heap.size) (by omega))
            have HAP : Hid (AllP 67 (six wr w.heap.size (.int .i64 (n1 : Int)) (.int .i64 (n2 : Int)) (.int .i64 (n3 : Int)) (.string (M.bs t4)) (.int .i64 (n5 : Int)) (.slice ax Q.length cx)) w.heap.size Q) := fun q hq => ((hap q hq).kt (KT.six a0 (by decide) (.int .i64 (n1 : Int)) (.int .i64 (n2 : Int)) (.int .i64 (n3 : Int)) (.string (M.bs t4)) (.int .i64 (n5 : Int)) (.slice ax Q.length cx))).low (by omega)
            clear hv hkd hoc hap hk2 a0 c0 hin
            go_wp2_with fail
            obtain ⟨v0, v1, v2, v3, v4, v5⟩ := HV.out
            simp only [six] at v0 v1 v2 v3 v4 v5
            refine bodyPost_ret (v := .tuple #[.agg #[.int .i64 (n1 : Int), .int .i64 (n2 : Int), .int .i64 (n3 : Int), .string (M.bs t4), .int .i64 (n5 : Int), .slice ax Q.length cx], .int .i64 0]) (by simp [results, Try.results13, go_sem, v0, v1, v2, v3, v4, v5]) rfl ?_
            first
              | exact ⟨.slice ax Q.length cx, Q, by rw [HF.out]; rfl, by rw [HF.out], HOC.out, HAP.out, HB.out⟩
              | exact ⟨.slice ax Q.length cx, by rw [HF.out]; rfl, Q, by rw [HF.out], HOC.out, HAP.out, HB.out⟩
          · have HF : Hid (GR = (M.zeroR, 2)) := by show _ = _; rw [HG.out, if_neg (by simp [hv]), if_neg hkd]
            have hk2 : ¬ (1 ≤ (n3 : Int) ∧ (n3 : Int) ≤ 4) := fun h => hkd ((M.btw_iff _ _ _).2 h)
            have HV := hid (a0.six (.int .i64 0) (.int .i64 0) (.int .i64 0) (.string ⟨#[]⟩) (.int .i64 0) (.slice none 0 0)).cells
            have HB := hid (hb.six (Nat.le_refl _) (.int .i64 0) (.int .i64 0) (.int .i64 0) (.string ⟨#[]⟩) (.int .i64 0) (.slice none 0 0))
            by_cases e1 : (n3 : Int) < 1
            · clear hv hkd hoc hap hk2 a0 c0 hin
              go_wp2_with fail
              obtain ⟨v0, v1, v2, v3, v4, v5⟩ := HV.out
              simp only [six] at v0 v1 v2 v3 v4 v5
              refine bodyPost_ret (v := .tuple #[.agg #[.int .i64 0, .int .i64 0, .int .i64 0, .string ⟨#[]⟩, .int .i64 0, .slice none 0 0], .int .i64 2]) (by simp [results, Try.results13, go_sem, v0, v1, v2, v3, v4, v5]) rfl (by first | exact ⟨.slice none 0 0, [], by rw [HF.out]; try rfl, by rw [HF.out]; try rfl, OwnC.nil _ _ _, fun q hq => by simp at hq, HB.out⟩ | exact ⟨.slice none 0 0, by rw [HF.out]; try rfl, [], by rw [HF.out]; try rfl, OwnC.nil _ _ _, fun q hq => by simp at hq, HB.out⟩)
            · have e2 : (4 : Int) < (n3 : Int) := by omega
              clear hv hkd hoc hap hk2 a0 c0 hin
              go_wp2_with fail
              obtain ⟨v0, v1, v2, v3, v4, v5⟩ := HV.out
              simp only [six] at v0 v1 v2 v3 v4 v5
              refine bodyPost_ret (v := .tuple #[.agg #[.int .i64 0, .int .i64 0, .int .i64 0, .string ⟨#[]⟩, .int .i64 0, .slice none 0 0], .int .i64 2]) (by simp [results, Try.results13, go_sem, v0, v1, v2, v3, v4, v5]) rfl (by first | exact ⟨.slice none 0 0, [], by rw [HF.out]; try rfl, by rw [HF.out]; try rfl, OwnC.nil _ _ _, fun q hq => by simp at hq, HB.out⟩ | exact ⟨.slice none 0 0, by rw [HF.out]; try rfl, [], by rw [HF.out]; try rfl, OwnC.nil _ _ _, fun q hq => by simp at hq, HB.out⟩)
        · have HF : Hid (GR = (M.zeroR, 4)) := by show _ = _; rw [HG.out, if_pos hv]
          have q1 : (M.bs r.1).toList.isEmpty = false := by rw [M.bs_toList]; simpa using hv
          have q2 : ¬ (M.bs r.1).toList = [] := by rw [M.bs_toList]; exact hv
          have HV := hid (a0.six (.int .i64 0) (.int .i64 0) (.int .i64 0) (.string ⟨#[]⟩) (.int .i64 0) (.slice none 0 0)).cells
          have HB := hid (hb.six (Nat.le_refl _) (.int .i64 0) (.int .i64 0) (.int .i64 0) (.string ⟨#[]⟩) (.int .i64 0) (.slice none 0 0))
          clear hv hoc hap a0 c0 hin
          go_wp2_with fail
          obtain ⟨v0, v1, v2, v3, v4, v5⟩ := HV.out
          simp only [six] at v0 v1 v2 v3 v4 v5
          refine bodyPost_ret (v := .tuple #[.agg #[.int .i64 0, .int .i64 0, .int .i64 0, .string ⟨#[]⟩, .int .i64 0, .slice none 0 0], .int .i64 4]) (by simp [results, Try.results13, go_sem, v0, v1, v2, v3, v4, v5]) rfl (by first | exact ⟨.slice none 0 0, [], by rw [HF.out]; try rfl, by rw [HF.out]; try rfl, OwnC.nil _ _ _, fun q hq => by simp at hq, HB.out⟩ | exact ⟨.slice none 0 0, by rw [HF.out]; try rfl, [], by rw [HF.out]; try rfl, OwnC.nil _ _ _, fun q hq => by simp at hq, HB.out⟩)
    · obtain ⟨i0, i1, _, _⟩ := hin.cells
      obtain ⟨z0, z1, z2, z3, z4, z5⟩ := a0.cells
      have y0 := a0.froz 0
      have y1 := a0.froz 1
      have y2 := a0.froz 2
      have y3 := a0.froz 3
      have y4 := a0.froz 4
      have y5 := a0.froz 5
      have qc : ((cd : Int) != 0) = true := by first | (simp; done) | (simp; omega)
      have qc2 : ¬ ((cd : Int) = 0) := by omega
      have qc3 : ((cd : Int) == 0) = false := by first | (simp; done) | (simp; omega)
      have HF := hid hF
      have i1d : wr.drew.cell? ⟨w.heap.size + 1, 1, none⟩ = some (.int .i64 (cd : Int)) := i1
      have HV := hid (a0.six (.int .i64 0) (.int .i64 0) (.int .i64 0) (.string ⟨#[]⟩) (.int .i64 0) (.slice none 0 0)).cells
      have HB := hid (hb.six (Nat.le_refl _) (.int .i64 0) (.int .i64 0) (.int .i64 0) (.string ⟨#[]⟩) (.int .i64 0) (.slice none 0 0)).dr
      clear hF hin a0 hb
      by_cases hlt : k < n6
      all_goals
        go_wp2_with fail
        go_region_held3 (fun w' => w'.cell? ⟨w.heap.size + 1, 1, none⟩ = some (.int .i64 (cd : Int))) (go_keep) (fail)
        clear z0 z1 z2 z3 z4 z5 y0 y1 y2 y3 y4 y5 i0 i1 i1d
        go_wp2_with fail
        obtain ⟨v0, v1, v2, v3, v4, v5⟩ := HV.out
        simp only [six] at v0 v1 v2 v3 v4 v5
        refine bodyPost_ret (v := .tuple #[.agg #[.int .i64 0, .int .i64 0, .int .i64 0, .string ⟨#[]⟩, .int .i64 0, .slice none 0 0], .int .i64 (cd : Int)]) (by simp [results, Try.results13, go_sem, v0, v1, v2, v3, v4, v5]) rfl (by first | exact ⟨.slice none 0 0, [], by rw [HF.out]; try rfl, by rw [HF.out]; try rfl, OwnC.nil _ _ _, fun q hq => by simp at hq, HB.out⟩ | exact ⟨.slice none 0 0, by rw [HF.out]; try rfl, [], by rw [HF.out]; try rfl, OwnC.nil _ _ _, fun q hq => by simp at hq, HB.out⟩)
/-- 'Get' of any bytes, the document's own. -/
theorem rgetR_any (s : List UInt8) (w : World) (hs : s.length ≤ 60000) :
    Calls Try.prog 13 #[.string (M.bs s)] w fun e w' => ∃ x Q, e = .returned (.tuple #[rv (M.getR s).1 x, .int .i64 ((M.getR s).2 : Int)]) ∧ Q.map (·.1) = (M.getR s).1.pages ∧ OwnC 63 w' w.heap.size x Q ∧ AllP 67 w' w.heap.size Q ∧ Bel w w' := by
  by_cases h : 16384 < s.length
  · exact rget_long s w h hs
  · exact rget_fits s w h
end Go.Proofs.Ytaepbmcmggnmpaa
