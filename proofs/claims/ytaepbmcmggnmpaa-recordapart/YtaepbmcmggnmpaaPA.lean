/-
  A record's bytes; the contract of record's Put, walked.
-/
import Derived.Test.YtaepbmcmggnmpaaBA
namespace Go.Proofs.Ytaepbmcmggnmpaa
open Go.RowKit
set_option maxRecDepth 100000
namespace M
theorem put_len (n : Int) (z : Nat) (h0 : 0 ≤ n) (hz : 1 ≤ z) (h7 : z ≤ 7) (h : n < 256 ^ z) : put n z = putL z n.toNat ∧ (put n z).length = z := by
  have e : put n z = putL z n.toNat := by
    unfold put
    have h1 : n.toNat < 256 ^ z := by have : ((256 ^ z : Nat) : Int) = (256 : Int) ^ z := by simp
                                      omega
    rw [if_pos ⟨by omega, by omega, h0, by rw [Int.toNat_natCast, Nat.pow_mul]; exact Nat.div_eq_of_lt h1⟩, Int.toNat_natCast]
  exact ⟨e, by rw [e, putL_length]⟩
def chB (c : Ch) : List UInt8 := put c.1 2 ++ putP c.2
def headB (r : Rec) : List UInt8 := put r.lsn 6 ++ put r.txn 6 ++ put r.kind 1 ++ (frm r.undo ++ put r.undone 2 ++ put r.pages.length 1)
def recB (r : Rec) : List UInt8 := headB r ++ r.pages.flatMap chB
def putR (r : Rec) : List UInt8 × Nat := if inB r = true then (if 16384 < (recB r).length then ([], 6) else (recB r, 0)) else ([], 1)
theorem btw_iff (a n b : Int) : btw a n b = true ↔ a ≤ n ∧ n ≤ b := by simp [btw]
theorem inB_iff (r : Rec) : inB r = true ↔ (0 ≤ r.lsn ∧ r.lsn ≤ 281474976710655) ∧ (0 ≤ r.txn ∧ r.txn ≤ 281474976710655) ∧ (1 ≤ r.kind ∧ r.kind ≤ 4) ∧ r.undo.length ≤ 65535 ∧ (0 ≤ r.undone ∧ r.undone ≤ 65535) ∧ r.pages.length ≤ 255 ∧ ∀ c ∈ r.pages, (0 ≤ c.1 ∧ c.1 ≤ 65535) ∧ right c.2 = true := by
  unfold inB
  simp only [Bool.and_eq_true, btw_iff, decide_eq_true_eq, Bool.not_eq_true', List.any_eq_false, badC, Bool.or_eq_true, not_or, Bool.not_eq_false]
  constructor
  · rintro ⟨⟨⟨⟨⟨⟨h1, h2⟩, h3⟩, h4⟩, h5⟩, h6⟩, h7⟩
    exact ⟨h1, h2, h3, h4, h5, h6, fun c hc => by have := h7 c hc; simpa [btw_iff] using this⟩
  · rintro ⟨h1, h2, h3, h4, h5, h6, h7⟩
    exact ⟨⟨⟨⟨⟨⟨h1, h2⟩, h3⟩, h4⟩, h5⟩, h6⟩, fun c hc => by have := h7 c hc; simpa [btw_iff] using this⟩
theorem putP_len (L : List Pc) (h : right L = true) (hL : L.length ≤ 5000) (hs : ∀ p ∈ L, p.2.length ≤ 17000) : 2 ≤ (putP L).length ∧ (putP L).length ≤ 85020002 := by
  unfold putP
  rw [if_pos ⟨h, by omega⟩, List.length_append, put_two_len _ (by omega) (by omega)]
  have : ∀ K : List Pc, (∀ p ∈ K, 0 ≤ p.1 ∧ p.1 ≤ 65535 ∧ p.2.length ≤ 17000) → (K.flatMap one).length ≤ K.length * 17004 := by
    intro K
    induction K with
    | nil => simp
    | cons p K ih =>
      intro h
      obtain ⟨h1, h2, h3⟩ := h p (by simp)
      have := ih (fun q hq => h q (by simp [hq]))
      have h4 := one_length p h1 h2 (by omega)
      simp only [List.flatMap_cons, List.length_append, List.length_cons, h4]; omega
  have h5 := this L (fun p hp => by have := right_all h p hp; have := hs p hp; omega)
  have : L.length * 17004 ≤ 5000 * 17004 := Nat.mul_le_mul_right _ (by omega)
  omega
theorem headB_len (r : Rec) (h : inB r = true) : (put r.lsn 6).length = 6 ∧ (put r.txn 6).length = 6 ∧ (put r.kind 1).length = 1 ∧ (frm r.undo).length = 2 + r.undo.length ∧ (put r.undone 2).length = 2 ∧ (put r.pages.length 1).length = 1 ∧ (headB r).length = 18 + r.undo.length := by
  obtain ⟨h1, h2, h3, h4, h5, h6, _⟩ := (inB_iff r).1 h
  have a1 : (put r.lsn 6).length = 6 := (put_len r.lsn 6 h1.1 (by omega) (by omega) (by omega)).2
  have a2 : (put r.txn 6).length = 6 := (put_len r.txn 6 h2.1 (by omega) (by omega) (by omega)).2
  have a3 : (put r.kind 1).length = 1 := (put_len r.kind 1 (by omega) (by omega) (by omega) (by omega)).2
  have a4 := frm_length r.undo h4
  have a5 : (put r.undone 2).length = 2 := (put_len r.undone 2 h5.1 (by omega) (by omega) (by omega)).2
  have a6 : (put (r.pages.length : Int) 1).length = 1 := (put_len (r.pages.length : Int) 1 (by omega) (by omega) (by omega) (by omega)).2
  refine ⟨a1, a2, a3, a4, a5, a6, ?_⟩
  unfold headB
  simp only [List.length_append]
  omega
end M
theorem len_any (B b : Nat) (l : List UInt8) (w : World) (h : Bd w B b l) : Calls Try.prog 23 #[.pointer (some ⟨b, 0, none⟩)] w fun e w' => e = .returned (.int .i64 (l.length : Int)) ∧ w = w' := by
  obtain ⟨p, hB, v, hbk, hown, hne⟩ : ∃ p, Lib.BuilderAtF 72 5 B b p (Lib.byteCells l) w := by
    rcases h with h | h
    · exact ⟨_, h⟩
    · exact ⟨_, h⟩
  rw [Lib.byteCells_length] at hown
  obtain ⟨ao, cap, rfl⟩ : ∃ ao cap, v = .slice ao l.length cap := by
    rcases hown.2 with ⟨hv, h0⟩ | ⟨g, cap, cur, fz, hv, _⟩
    · exact ⟨none, 0, by rw [hv, h0]⟩
    · exact ⟨_, _, hv⟩
  have c1 : w.cell? ⟨b, 1, none⟩ = some (.slice ao l.length cap) := by rw [Lib.cell_of_heap hbk]; rfl
  clear hown
  go_enter Try.func23, Try.ntmps23
  go_wp2
  go_ret
  exact ⟨rfl, rfl⟩
theorem cells6_of {W : World} {g : Nat} {c0 c1 c2 c3 c4 c5 : Value} {t : TypeId} (h : W.heap[g]? = some (.cells #[c0, c1, c2, c3, c4, c5] t (0, 0))) :
    W.cell? ⟨g, 0, none⟩ = some c0 ∧ W.cell? ⟨g, 1, none⟩ = some c1 ∧ W.cell? ⟨g, 2, none⟩ = some c2 ∧ W.cell? ⟨g, 3, none⟩ = some c3 ∧ W.cell? ⟨g, 4, none⟩ = some c4 ∧ W.cell? ⟨g, 5, none⟩ = some c5 :=
  ⟨by rw [Lib.cell_of_heap h]; rfl, by rw [Lib.cell_of_heap h]; rfl, by rw [Lib.cell_of_heap h]; rfl, by rw [Lib.cell_of_heap h]; rfl, by rw [Lib.cell_of_heap h]; rfl, by rw [Lib.cell_of_heap h]; rfl⟩
theorem put_bad (r : M.Rec) (x : Value) (w : World) (hs : SmR r) (hv : ValC w x r.pages) (hn : M.inB r = false) :
    Calls Try.prog 9 #[rv r x] w fun e w' => e = .returned (.tuple #[.string ⟨#[]⟩, .int .i64 1]) ∧ Bel w w' := by
  have H := fun W hv => inBounds_any r x W hs hv
  rw [hn] at H
  obtain ⟨lsn, txn, kind, undo, undone, pages⟩ := r
  simp only at H hv ⊢
  obtain ⟨a0, cap0, rfl, _⟩ := id hv
  clear hs hn
  go_enter Try.func9, Try.ntmps9
  go_wp2_with fail
  refine (H _ (hv.bel (Bel.al (Below.refl _ _) _))).mono ?_
  rintro e w1 ⟨rfl, b1⟩
  go_wp2_with fail
  go_ret2
  exact ⟨rfl, Bel.tr (Bel.al (Below.refl _ _) _) b1⟩
set_option maxHeartbeats 8000000 in
theorem put_good (r : M.Rec) (x : Value) (w : World) (hs : SmR r) (hv : ValC w x r.pages) (hy : M.inB r = true) :
    Calls Try.prog 9 #[rv r x] w fun e w' => e = .returned (.tuple #[.string (M.bs (M.putR r).1), .int .i64 ((M.putR r).2 : Int)]) ∧ Bel w w' := by
  have H := fun W hv => inBounds_any r x W hs hv
  rw [hy] at H
  have HR : Hid (M.putR r = if 16384 < (M.recB r).length then ([], 6) else (M.recB r, 0)) := by show _ = _; unfold M.putR; rw [if_pos hy]
  obtain ⟨l1, l2, l3, l4, l5, l6, lh⟩ := M.headB_len r hy
  obtain ⟨i1, i2, i3, i4, i5, i6, i7⟩ := (M.inB_iff r).1 hy
  have he := hs.each
  have HQ : Hid (M.recB r = M.headB r ++ r.pages.flatMap M.chB) := rfl
  have HH : Hid (M.headB r = M.put r.lsn 6 ++ M.put r.txn 6 ++ M.put r.kind 1 ++ (M.frm r.undo ++ M.put r.undone 2 ++ M.put r.pages.length 1)) := rfl
  generalize M.putR r = PR at *
  generalize M.recB r = RB at *
  generalize M.headB r = HD at *
  obtain ⟨lsn, txn, kind, undo, undone, pages⟩ := r
  simp only at H hv HQ HH l1 l2 l3 l4 l5 l6 lh i1 i2 i3 i4 i5 i6 i7 he ⊢
  obtain ⟨a0, cap0, rfl, _⟩ := id hv
  have zu : (M.bs undo).size = undo.length := M.bs_size undo
  clear hs hy
  have Hp : ∀ n z : Int, ((n = lsn ∧ z = 6) ∨ (n = txn ∧ z = 6) ∨ (n = kind ∧ z = 1)) → ∀ W, Calls Try.prog 20 #[.int .i64 n, .int .i64 z] W fun e w' => e = .returned (.string (M.bs (M.put n z))) ∧ Bel W w' := fun n z hn W => put_any n z W (by omega) (by omega)
  have Hq : ∀ n z : Int, ((n = undone ∧ z = 2) ∨ (n = (pages.length : Int) ∧ z = 1)) → ∀ W, Calls Try.prog 20 #[.int .i64 n, .int .i64 z] W fun e w' => e = .returned (.string (M.bs (M.put n z))) ∧ Bel W w' := fun n z hn W => put_any n z W (by omega) (by omega)
  have Hf := fun W => framed_any undo W (by omega)
  have z1 : (M.bs (M.put lsn 6)).size = 6 := by rw [M.bs_size]; exact l1
  have z2 : (M.bs (M.put txn 6)).size = 6 := by rw [M.bs_size]; exact l2
  have z3 : (M.bs (M.put kind 1)).size = 1 := by rw [M.bs_size]; exact l3
  have z4 : (M.bs (M.frm undo)).size = 2 + undo.length := by rw [M.bs_size]; exact l4
  have z5 : (M.bs (M.put undone 2)).size = 2 := by rw [M.bs_size]; exact l5
  have z6 : (M.bs (M.put (pages.length : Int) 1)).size = 1 := by rw [M.bs_size]; exact l6
  have z12 : (M.bs (M.put lsn 6) ++ M.bs (M.put txn 6)).size = 12 := by rw [M.bs_append, M.bs_size, List.length_append]; omega
  have z45 : (M.bs (M.frm undo) ++ M.bs (M.put undone 2)).size = 4 + undo.length := by rw [M.bs_append, M.bs_size, List.length_append]; omega
  have HE1 : Hid (M.bs (M.put lsn 6) ++ M.bs (M.put txn 6) ++ M.bs (M.put kind 1) = M.bs (M.put lsn 6 ++ M.put txn 6 ++ M.put kind 1)) := by show _ = _; rw [M.bs_append, M.bs_append]
  have HE2 : Hid (M.bs (M.frm undo) ++ M.bs (M.put undone 2) ++ M.bs (M.put (pages.length : Int) 1) = M.bs (M.frm undo ++ M.put undone 2 ++ M.put pages.length 1)) := by show _ = _; rw [M.bs_append, M.bs_append]
  have g1 : (M.put lsn 6 ++ M.put txn 6 ++ M.put kind 1).length = 13 := by simp only [List.length_append]; omega
  have g2 : (M.frm undo ++ M.put undone 2 ++ M.put (pages.length : Int) 1).length = 5 + undo.length := by simp only [List.length_append]; omega
  generalize M.put lsn 6 ++ M.put txn 6 ++ M.put kind 1 = A1 at *
  generalize M.frm undo ++ M.put undone 2 ++ M.put (pages.length : Int) 1 = A2 at *
  have q1 : ¬ 9223372036854775807 < 4 + undo.length := by omega
  have q2 : ¬ 9223372036854775807 < 2 + undo.length := by omega
  have q3 : ¬ 9223372036854775807 < 2 + undo.length + 2 := by omega
  have q4 : ¬ 9223372036854775807 < 4 + undo.length + 1 := by omega
  go_enter Try.func9, Try.ntmps9
  go_wp2_with fail
  refine (H _ (hv.bel (Bel.al (Below.refl _ _) _))).mono ?_
  rintro e w1 ⟨rfl, b1⟩
  have zz1 := b1.size
  simp only [World.size_alloc] at zz1
  have hbk0 : w1.heap[w.heap.size]? = some (.cells #[.int .i64 lsn, .int .i64 txn, .int .i64 kind, .string (M.bs undo), .int .i64 undone, .slice a0 pages.length cap0] 29 (0, 0)) := (b1.block _ (by simp)).trans (heap_alloc_new w _)
  have HV1 := hid ((hv.bel (Bel.al (Below.refl _ w) (.cells #[.int .i64 lsn, .int .i64 txn, .int .i64 kind, .string (M.bs undo), .int .i64 undone, .slice a0 pages.length cap0] 29))).bel b1)
  have BB1 : Bel w w1 := (Bel.al (Below.refl _ w) _).tr b1
  clear H hv b1
  have hbd := (Bd.new w1).dr
  have hbk : (w1.alloc (.cells #[.pointer none, .slice none 0 0] 72)).drew.heap[w.heap.size]? = some (.cells #[.int .i64 lsn, .int .i64 txn, .int .i64 kind, .string (M.bs undo), .int .i64 undone, .slice a0 pages.length cap0] 29 (0, 0)) := ((Bel.al (Below.refl _ w1) (.cells #[.pointer none, .slice none 0 0] 72)).dr.block _ (by omega)).trans hbk0
  have hzx : w.heap.size < (w1.alloc (.cells #[.pointer none, .slice none 0 0] 72)).drew.heap.size := by simp; omega
  have hzy : w1.heap.size < (w1.alloc (.cells #[.pointer none, .slice none 0 0] 72)).drew.heap.size := by simp
  have hbx : Bel w1 (w1.alloc (.cells #[.pointer none, .slice none 0 0] 72)).drew := (Bel.al (Below.refl _ w1) _).dr
  obtain ⟨e0, e1, e2, e3, e4, e5⟩ := cells6_of hbk
  have Hw := fun W (h : Bd W w1.heap.size w1.heap.size []) (hW : w1.heap.size ≤ W.heap.size) => writeString_any w1.heap.size w1.heap.size [] A1 W h (by simp; omega) hW
  rw [← HE1.out] at Hw
  go_wp2_with fail
  go_region_held3 (fun w' => w'.cell? ⟨w.heap.size, 0, none⟩ = some (.int .i64 lsn) ∧ w'.cell? ⟨w.heap.size, 1, none⟩ = some (.int .i64 txn) ∧ w'.cell? ⟨w.heap.size, 2, none⟩ = some (.int .i64 kind)) (go_keep)
    (first
      | (go_at_call 20; refine (Hp _ _ (by first | exact .inl ⟨rfl, rfl⟩ | exact .inr (.inl ⟨rfl, rfl⟩) | exact .inr (.inr ⟨rfl, rfl⟩)) _).mono ?_; rintro e w4 ⟨rfl, b4⟩; have hc0 := bel_cell b4 (g := w.heap.size) hzx; have hbd := hbd.bel b4; have hbx := hbx.tr b4; have hbk := (b4.block w.heap.size hzx).trans hbk; have hzx := Nat.lt_of_lt_of_le hzx b4.size; have hzy := Nat.lt_of_lt_of_le hzy b4.size)
      | (go_at_call 19; refine (Hw _ hbd (by omega)).mono ?_; rintro e w5 ⟨rfl, hbd5, b5, k5⟩; have hz5 := b5.size; have hbk5 := kept_cell k5 hbk (by omega) (by decide); have hc0 : ∀ o, w5.cell? ⟨w.heap.size, o, none⟩ = w4.cell? ⟨w.heap.size, o, none⟩ := fun o => World.cell?_of_block (w := w4) (hbk5.trans hbk.symm)))
  clear hbd hbk hzx hbk0 e0 e1 e2 e3 e4 e5 Hp Hw l1 l2 l3 z1 z2 z3 z12
  have hbx5 : Bel w1 w5 := hbx.trans (b5.mono (by omega))
  have hzz5 : w1.heap.size < w5.heap.size := by omega
  clear hbx hzy b5 k5 hz5
  have hbd : Bd w5.drew w1.heap.size w1.heap.size A1 := hbd5
  have hbk : w5.drew.heap[w.heap.size]? = some (.cells #[.int .i64 lsn, .int .i64 txn, .int .i64 kind, .string (M.bs undo), .int .i64 undone, .slice a0 pages.length cap0] 29 (0, 0)) := hbk5
  have hzx : w.heap.size < w5.drew.heap.size := by have : w5.drew.heap.size = w5.heap.size := rfl
                                                   omega
  have hzy : w1.heap.size < w5.drew.heap.size := hzz5
  have hbx : Bel w1 w5.drew := hbx5.dr
  obtain ⟨e0, e1, e2, e3, e4, e5⟩ := cells6_of hbk
  clear hbd5 hbk5 hbx5 hzz5
  have Hw := fun W (h : Bd W w1.heap.size w1.heap.size A1) (hW : w1.heap.size ≤ W.heap.size) => writeString_any w1.heap.size w1.heap.size A1 A2 W h (by omega) hW
  rw [← HE2.out] at Hw
  go_wp2_with fail
  go_region_held3 (fun w' => w'.cell? ⟨w.heap.size, 3, none⟩ = some (.string (M.bs undo)) ∧ w'.cell? ⟨w.heap.size, 4, none⟩ = some (.int .i64 undone) ∧ w'.cell? ⟨w.heap.size, 5, none⟩ = some (.slice a0 pages.length cap0)) (go_keep)
    (first
      | (go_at_call 20; refine (Hq _ _ (by first | exact .inl ⟨rfl, rfl⟩ | exact .inr ⟨rfl, rfl⟩) _).mono ?_; rintro e w4 ⟨rfl, b4⟩; have hc0 := bel_cell b4 (g := w.heap.size) hzx; have hbd := hbd.bel b4; have hbx := hbx.tr b4; have hbk := (b4.block w.heap.size hzx).trans hbk; have hzx := Nat.lt_of_lt_of_le hzx b4.size; have hzy := Nat.lt_of_lt_of_le hzy b4.size)
      | (go_at_call 21; refine (Hf _).mono ?_; rintro e w4 ⟨rfl, b4⟩; have hc0 := bel_cell b4 (g := w.heap.size) hzx; have hbd := hbd.bel b4; have hbx := hbx.tr b4; have hbk := (b4.block w.heap.size hzx).trans hbk; have hzx := Nat.lt_of_lt_of_le hzx b4.size; have hzy := Nat.lt_of_lt_of_le hzy b4.size)
      | (go_at_call 19; refine (Hw _ hbd (by omega)).mono ?_; rintro e w7 ⟨rfl, hbd7, b7, k7⟩; have hz7 := b7.size; have hbk7 := kept_cell k7 hbk (by omega) (by decide); have hc0 : ∀ o, w7.cell? ⟨w.heap.size, o, none⟩ = w4.cell? ⟨w.heap.size, o, none⟩ := fun o => World.cell?_of_block (w := w4) (hbk7.trans hbk.symm)))
  have HB7 := hid (hbx.trans (b7.mono (by omega)))
  have hzz7 : w1.heap.size < w7.heap.size := by omega
  have HH2 : Hid (HD = A1 ++ A2) := HH.out
  have HBD7 : Hid (Bd w7 w1.heap.size w1.heap.size HD) := by show Bd _ _ _ _; rw [HH2.out]; exact hbd7
  obtain ⟨_, _, _, _, _, e5⟩ := cells6_of hbk7
  clear hbd hbk hzx hbk7 hbd7 e0 e1 e2 e3 e4 Hw Hq Hf l4 l5 l6 z4 z5 z6 z45 hbx hzy b7 k7 hz7 HH g1 g2 HE1 HE2 zu q1 q2 q3 q4
  go_wp2_with fail
  go_loopw [39] (fun i wr => ∃ (k : Nat), k ≤ pages.length ∧ i = .int .i64 k ∧ Bd wr w1.heap.size w1.heap.size (HD ++ (pages.take k).flatMap M.chB) ∧ Bel w1 wr ∧ w1.heap.size < wr.heap.size ∧ (HD ++ (pages.take k).flatMap M.chB).length ≤ 86000000) (fun i _ => pages.length - (intOf i).toNat)
  case atStart => exact ⟨0, Nat.zero_le _, rfl, by simpa using HBD7.out, HB7.out, hzz7, by simp; omega⟩
  case round =>
    obtain ⟨k, hk, rfl, hbd, hbel, hzr, hlen⟩ := hrel
    have HLE : Hid ((HD ++ (pages.take k).flatMap M.chB).length ≤ RB.length) := by
      show _ ≤ _
      rw [HQ.out]
      conv => rhs; rw [← List.take_append_drop k pages]
      rw [List.flatMap_append]
      simp only [List.length_append]; omega
    have HL := fun W h => len_any w1.heap.size w1.heap.size (HD ++ (pages.take k).flatMap M.chB) W h
    have HXT : Hid (∀ h : k < pages.length, HD ++ (pages.take (k + 1)).flatMap M.chB = HD ++ (pages.take k).flatMap M.chB ++ M.chB pages[k]) := fun h => by rw [List.take_succ_eq_append_getElem h, List.flatMap_append, List.flatMap_cons, List.flatMap_nil, List.append_nil, List.append_assoc]
    have HXF : Hid (pages.length ≤ k → HD ++ (pages.take k).flatMap M.chB = RB) := fun h => by rw [List.take_of_length_le h, HQ.out]
    have hne : HD ++ (pages.take k).flatMap M.chB ≠ [] := by intro e; have := congrArg List.length e; rw [List.length_append, lh] at this; simp at this
    generalize HD ++ (pages.take k).flatMap M.chB = ACC at *
    by_cases hlt : k < pages.length
    · have HT := hid (HXT.out hlt)
      obtain ⟨b, off, rfl, hr⟩ : ∃ b off, a0 = some ⟨b, off, none⟩ ∧ RowC wr b off pages := by
        obtain ⟨a, c, hx, hc⟩ := HV1.out.bel hbel
        simp only [Value.slice.injEq] at hx
        obtain ⟨rfl, _, _⟩ := hx
        exact hc.resolve_left (fun h => by rw [h] at hlt; simp at hlt)
      obtain ⟨xv, c1, c2, c3⟩ := hr k hlt
      obtain ⟨he1, he2⟩ := he pages[k] (List.getElem_mem hlt)
      obtain ⟨hp1, hp2⟩ := i7 pages[k] (List.getElem_mem hlt)
      clear he i7 hr
      generalize hpk : pages[k] = c at *
      clear hpk
      obtain ⟨pn, pl⟩ := c
      simp only at he1 he2 hp1 hp2 c1 c2 c3
      obtain ⟨pp1, pp2⟩ := M.putP_len pl hp2 he1 he2
      obtain ⟨xa, xc, rfl, _⟩ := id c3
      have HP := fun W h => putP_any pl (.slice xa pl.length xc) W h he1 he2
      have q1 : (M.bs (M.putP pl)).toList.isEmpty = false := by
        rw [M.bs_toList]
        cases hpp : M.putP pl with
        | nil => rw [hpp] at pp1; simp at pp1
        | cons => rfl
      have q2 : ¬ (M.bs (M.putP pl)).toList = [] := by
        rw [M.bs_toList]; intro h; rw [h] at pp1; simp at pp1
      have zp : (M.bs (M.putP pl)).size = (M.putP pl).length := M.bs_size _
      have lp : (M.put pn 2).length = 2 := M.put_two_len pn hp1.1 hp1.2
      have zp2 : (M.bs (M.put pn 2)).size = 2 := by rw [M.bs_size]; exact lp
      have HE : Hid (M.bs (M.put pn 2) ++ M.bs (M.putP pl) = M.bs (M.chB (pn, pl))) := by show _ = _; rw [M.bs_append]; rfl
      have lc : (M.chB (pn, pl)).length = 2 + (M.putP pl).length := by show (M.put pn 2 ++ M.putP pl).length = _; rw [List.length_append, lp]
      have Hp := fun W => put_any pn 2 W (by omega) (by omega)
      have hv := c3.bel (Bel.al (Below.refl _ wr) (.cells #[.int .i64 pn, .slice xa pl.length xc] 60))
      have hbd1 := hbd.al (.cells #[.int .i64 pn, .slice xa pl.length xc] 60)
      have hbk : (wr.alloc (.cells #[.int .i64 pn, .slice xa pl.length xc] 60)).heap[wr.heap.size]? = some (.cells #[.int .i64 pn, .slice xa pl.length xc] 60 (0, 0)) := heap_alloc_new wr _
      by_cases hbig : 16384 < (ACC).length
      · have HF : Hid (PR = ([], 6)) := by show _ = _; rw [HR.out, if_pos (by have := HLE.out; omega)]
        go_wp2_with fail
        refine (HP _ hv).mono ?_
        rintro e w2 ⟨rfl, b2⟩
        go_wp2_with fail
        refine (HL _ (hbd1.bel b2)).mono ?_
        rintro e w3 ⟨rfl, rfl⟩
        go_wp2_with fail
        go_ret2
        exact ⟨by rw [HF.out]; rfl, BB1.tr ((hbel.al _).tr b2)⟩
      · have Hw := fun W (h : Bd W w1.heap.size w1.heap.size (ACC)) (hW : w1.heap.size ≤ W.heap.size) => writeString_any w1.heap.size w1.heap.size _ (M.chB (pn, pl)) W h (by omega) hW
        rw [← HE.out] at Hw
        go_wp2_with fail
        refine (HP _ hv).mono ?_
        rintro e w2 ⟨rfl, b2⟩
        have hbk2 := (b2.block wr.heap.size (by simp)).trans hbk
        have d0 : w2.cell? ⟨wr.heap.size, 0, none⟩ = some (.int .i64 pn) := by rw [Lib.cell_of_heap hbk2]; rfl
        have z2 := b2.size
        simp only [World.size_alloc] at z2
        go_wp2_with fail
        refine (HL _ (hbd1.bel b2)).mono ?_
        rintro e w3 ⟨rfl, rfl⟩
        go_wp2_with fail
        refine (Hp _).mono ?_
        rintro e w4 ⟨rfl, b4⟩
        have z4 := b4.size
        go_wp2_with fail
        refine (Hw _ ((hbd1.bel b2).bel b4) (by omega)).mono ?_
        rintro e w5 ⟨rfl, hbd5, b5, k5⟩
        have z5 := b5.size
        go_wp2_with fail
        go_roundw
        case rel => exact ⟨k + 1, by omega, by go_num, by rw [HT.out]; exact hbd5, (((hbel.al _).tr b2).tr b4).trans (b5.mono (by omega)), by omega, by rw [HT.out, List.length_append]; omega⟩
        case measure => simp [intOf]; omega
    · have HF := hid (HXF.out (by omega))
      by_cases hbig : 16384 < (ACC).length
      · have HF2 : Hid (PR = ([], 6)) := by show _ = _; rw [HR.out, if_pos (by have := HLE.out; omega)]
        go_wp2_with fail
        refine (HL _ hbd).mono ?_
        rintro e w3 ⟨rfl, rfl⟩
        go_wp2_with fail
        go_ret2
        exact ⟨by rw [HF2.out]; rfl, BB1.tr hbel⟩
      · have HF2 : Hid (PR = (RB, 0)) := by show _ = _; rw [HR.out, if_neg (by rw [← HF.out]; exact hbig)]
        have Hs := string_any w1.heap.size w1.heap.size _ wr hbd hne
        go_wp2_with fail
        refine (HL _ hbd).mono ?_
        rintro e w3 ⟨rfl, rfl⟩
        go_wp2_with fail
        refine Hs.mono ?_
        rintro e w4 ⟨rfl, _, b4, _⟩
        go_wp2_with fail
        go_ret2
        exact ⟨by rw [HF2.out, HF.out]; rfl, BB1.tr (hbel.trans (b4.mono (by omega)))⟩
/-- 'Put' of any record. -/
theorem putR_any (r : M.Rec) (x : Value) (w : World) (hs : SmR r) (hv : ValC w x r.pages) :
    Calls Try.prog 9 #[rv r x] w fun e w' => e = .returned (.tuple #[.string (M.bs (M.putR r).1), .int .i64 ((M.putR r).2 : Int)]) ∧ Bel w w' := by
  by_cases hy : M.inB r = true
  · exact put_good r x w hs hv hy
  · have e : M.putR r = ([], 1) := by unfold M.putR; rw [if_neg hy]
    rw [e]
    exact put_bad r x w hs hv (by simpa using hy)
end Go.Proofs.Ytaepbmcmggnmpaa
