/-
  The contracts of the reader of package parts, walked.
-/
import Derived.Test.YtaepbmcmggnmpaaDoorC
namespace Go.Proofs.YtaepbmcmggnmpaaDoor
open Go.RowKit
set_option maxRecDepth 100000

/-- All but block g is as it was. -/
structure Kp (g : Nat) (w w' : World) : Prop where
  os : w'.os = w.os
  tape : w'.tape = w.tape
  output : w'.output = w.output
  size : w.heap.size ≤ w'.heap.size
  block : ∀ k, k < w.heap.size → k ≠ g → w'.heap[k]? = w.heap[k]?
theorem Kp.refl (g : Nat) (w : World) : Kp g w w := ⟨rfl, rfl, rfl, Nat.le_refl _, fun _ _ _ => rfl⟩
theorem Kp.tr {g : Nat} {a b c : World} (h : Kp g a b) (k : Kp g b c) : Kp g a c :=
  ⟨k.os.trans h.os, k.tape.trans h.tape, k.output.trans h.output, Nat.le_trans h.size k.size, fun i hi hg => (k.block i (Nat.lt_of_lt_of_le hi h.size) hg).trans (h.block i hi hg)⟩
theorem Kp.of_bel {g : Nat} {a b : World} (h : Bel a b) : Kp g a b := ⟨h.os, h.tape, h.output, h.size, fun k hk _ => h.block k hk⟩
theorem Kp.set (g o : Nat) (w : World) (u : Value) : Kp g w (w.setCell ⟨g, o, none⟩ u) := ⟨rfl, rfl, rfl, by simp [World.setCell], fun k _ hk => Below.heap_setCell _ _ _ _ (by simpa using hk)⟩
theorem Kp.bel {g : Nat} {w a b : World} (h : Bel w a) (hg : w.heap.size ≤ g) (k : Kp g a b) : Bel w b :=
  h.trans ⟨k.os, k.tape, k.output, k.size, fun i hi => k.block i (Nat.lt_of_lt_of_le hi h.size) (by omega)⟩
theorem Kp.below {g B : Nat} {w a b : World} (h : Below B w a) (hB : B ≤ a.heap.size) (hg : B ≤ g) (k : Kp g a b) : Below B w b :=
  h.trans ⟨k.os, k.tape, k.output, k.size, fun i hi => k.block i (Nat.lt_of_lt_of_le hi hB) (by omega)⟩
/-- The reader in block g. -/
def RdAt (w : World) (g : Nat) (r : M.Rd) : Prop := w.heap[g]? = some (.cells #[.string (M.bs r.1), .bool r.2] 152 (0, 0))
theorem RdAt.lt {w : World} {g : Nat} {r : M.Rd} (h : RdAt w g r) : g < w.heap.size := (Array.getElem?_eq_some_iff.1 h).1
theorem RdAt.bel {w w' : World} {g : Nat} {r : M.Rd} (h : RdAt w g r) (k : Bel w w') : RdAt w' g r := (k.block g h.lt).trans h
theorem RdAt.kp {w w' : World} {g b : Nat} {r : M.Rd} (h : RdAt w g r) (k : Kp b w w') (hb : g ≠ b) : RdAt w' g r := (k.block g h.lt hb).trans h
theorem RdAt.cells {w : World} {g : Nat} {r : M.Rd} (h : RdAt w g r) : w.cell? ⟨g, 0, none⟩ = some (.string (M.bs r.1)) ∧ w.cell? ⟨g, 1, none⟩ = some (.bool r.2) ∧ w.frozen? ⟨g, 0, none⟩ = false ∧ w.frozen? ⟨g, 1, none⟩ = false :=
  ⟨by rw [Lib.cell_of_heap h]; rfl, by rw [Lib.cell_of_heap h]; rfl, Lib.frozen_of_heap h 0, Lib.frozen_of_heap h 1⟩
theorem RdAt.set0 {w : World} {g : Nat} {r : M.Rd} (h : RdAt w g r) (l : List UInt8) : RdAt (w.setCell ⟨g, 0, none⟩ (.string (M.bs l))) g (l, r.2) := by
  unfold RdAt
  rw [heap_setCell_same w g 0 _ 152 _ h]; rfl
theorem RdAt.set1 {w : World} {g : Nat} {r : M.Rd} (h : RdAt w g r) (b : Bool) : RdAt (w.setCell ⟨g, 1, none⟩ (.bool b)) g (r.1, b) := by
  unfold RdAt
  rw [heap_setCell_same w g 1 _ 152 _ h]; rfl
theorem of_any (s : List UInt8) (w : World) : Calls Tryd.prog 74 #[.string (M.bs s)] w fun e w' => e = .returned (.pointer (some ⟨w.heap.size, 0, none⟩)) ∧ RdAt w' w.heap.size (s, false) ∧ Bel w w' := by
  go_enter Tryd.func74, Tryd.ntmps74
  go_wp2
  go_ret
  exact ⟨rfl, heap_alloc_new w _, Bel.al (Below.refl _ _) _⟩
theorem short_any (g : Nat) (r : M.Rd) (w : World) (h : RdAt w g r) : Calls Tryd.prog 77 #[.pointer (some ⟨g, 0, none⟩)] w fun e w' => e = .returned (.bool r.2) ∧ w = w' := by
  obtain ⟨c0, c1, f0, f1⟩ := h.cells
  clear h
  go_enter Tryd.func77, Tryd.ntmps77
  go_wp2
  go_ret
  exact ⟨rfl, rfl⟩
theorem rest_any (g : Nat) (r : M.Rd) (w : World) (h : RdAt w g r) : Calls Tryd.prog 78 #[.pointer (some ⟨g, 0, none⟩)] w fun e w' => e = .returned (.string (M.bs r.1)) ∧ w = w' := by
  obtain ⟨c0, c1, f0, f1⟩ := h.cells
  clear h
  go_enter Tryd.func78, Tryd.ntmps78
  go_wp2
  go_ret
  exact ⟨rfl, rfl⟩
set_option maxHeartbeats 400000 in
theorem rtext_any (g : Nat) (r : M.Rd) (n : Nat) (w : World) (h : RdAt w g r) (_hn : n ≤ 100000) (_hr : r.1.length ≤ 100000) :
    Calls Tryd.prog 76 #[.pointer (some ⟨g, 0, none⟩), .int .i64 (n : Int)] w fun e w' => e = .returned (.string (M.bs (M.rtext r n).1)) ∧ RdAt w' g (M.rtext r n).2 ∧ Kp g w w' := by
  obtain ⟨c0, c1, f0, f1⟩ := h.cells
  have hz : (M.bs r.1).size = r.1.length := M.bs_size _
  have HR := hid h
  clear h
  by_cases hb : r.2 = true
  · have HE : Hid (M.rtext r n = ([], (r.1, true))) := by show _ = _; unfold M.rtext; rw [if_pos (.inl hb)]
    rw [hb] at c1
    clear hb
    go_enter Tryd.func76, Tryd.ntmps76
    go_wp2_with fail
    go_ret
    exact ⟨by rw [HE.out]; rfl, by rw [HE.out]; exact HR.out.set1 true, Kp.set g 1 w _⟩
  · have hbf : r.2 = false := by simpa using hb
    rw [hbf] at c1
    by_cases hl : r.1.length < n
    · have HE : Hid (M.rtext r n = ([], (r.1, true))) := by show _ = _; unfold M.rtext; rw [if_pos (.inr hl)]
      clear hb
      go_enter Tryd.func76, Tryd.ntmps76
      go_wp2_with fail
      go_ret
      exact ⟨by rw [HE.out]; rfl, by rw [HE.out]; exact HR.out.set1 true, Kp.set g 1 w _⟩
    · have HE : Hid (M.rtext r n = (r.1.take n, (r.1.drop n, r.2))) := by show _ = _; unfold M.rtext; rw [if_neg (by rintro (h | h); exact hb h; exact hl h)]
      have hx1 : (M.bs r.1).extract 0 n = M.bs (r.1.take n) := by rw [sub_bs, List.drop_zero, Nat.sub_zero]
      have hx2 : (M.bs r.1).extract n r.1.length = M.bs (r.1.drop n) := by rw [sub_bs, List.take_of_length_le (by rw [List.length_drop]; omega)]
      clear hb
      go_enter Tryd.func76, Tryd.ntmps76
      go_wp2_with fail
      go_ret
      exact ⟨by rw [HE.out]; rfl, by rw [HE.out]; exact HR.out.set0 _, Kp.set g 0 w _⟩
theorem rtext_len (r : M.Rd) (n : Nat) : (M.rtext r n).1.length ≤ n ∧ (M.rtext r n).2.1.length ≤ r.1.length := by
  unfold M.rtext
  split
  · simp
  · simp only [List.length_take, List.length_drop]; omega
theorem rnum_len (r : M.Rd) (n : Nat) : (M.rnum r n).2.1.length ≤ r.1.length := (rtext_len r n).2
theorem rnum_lt (r : M.Rd) (n : Nat) (hn : n ≤ 2) : (M.rnum r n).1 ≤ 65535 ∧ (M.rnum r n).2.1.length ≤ r.1.length := by
  have h := rtext_len r n
  refine ⟨?_, h.2⟩
  show M.get (M.rtext r n).1 ≤ 65535
  unfold M.get
  split
  · have h2 := M.getN_lt (M.rtext r n).1
    have : 256 ^ (M.rtext r n).1.length ≤ 256 ^ 2 := Nat.pow_le_pow_right (by decide) (by omega)
    omega
  · omega
theorem rnum_any (g : Nat) (r : M.Rd) (n : Nat) (w : World) (h : RdAt w g r) (hn : n ≤ 7) (hr : r.1.length ≤ 100000) :
    Calls Tryd.prog 75 #[.pointer (some ⟨g, 0, none⟩), .int .i64 (n : Int)] w fun e w' => e = .returned (.int .i64 ((M.rnum r n).1 : Int)) ∧ RdAt w' g (M.rnum r n).2 ∧ Kp g w w' := by
  have H1 := rtext_any g r n w h (by omega) hr
  have hl := (rtext_len r n).1
  have H2 := fun W => get_any (M.bs (M.rtext r n).1) W (by rw [M.bs_size]; unfold maxLen; omega)
  rw [M.bs_data] at H2
  have HE : Hid (M.rnum r n = (M.get (M.rtext r n).1, (M.rtext r n).2)) := rfl
  generalize M.bs (M.rtext r n).1 = S at *
  generalize M.get (M.rtext r n).1 = G at *
  generalize (M.rtext r n).2 = R at *
  go_enter Tryd.func75, Tryd.ntmps75
  go_wp2_with fail
  refine H1.mono ?_
  rintro e w1 ⟨rfl, h1, k1⟩
  go_wp2_with fail
  refine (H2 _).mono ?_
  rintro e w2 ⟨rfl, rfl⟩
  go_wp2_with fail
  go_ret
  exact ⟨by rw [HE.out]; rfl, by rw [HE.out]; exact h1, k1⟩
/-- A block of three cells. -/
def B3 (w : World) (b : Nat) (t : TypeId) (c0 c1 c2 : Value) : Prop := w.heap[b]? = some (.cells #[c0, c1, c2] t (0, 0))
theorem B3.kp {g b : Nat} {w w' : World} {t : TypeId} {c0 c1 c2 : Value} (h : B3 w b t c0 c1 c2) (k : Kp g w w') (hb : b ≠ g) : B3 w' b t c0 c1 c2 := (k.block b (Array.getElem?_eq_some_iff.1 h).1 hb).trans h
theorem B3.cells {w : World} {b : Nat} {t : TypeId} {c0 c1 c2 : Value} (h : B3 w b t c0 c1 c2) : (w.cell? ⟨b, 0, none⟩ = some c0 ∧ w.cell? ⟨b, 1, none⟩ = some c1 ∧ w.cell? ⟨b, 2, none⟩ = some c2) ∧ (w.frozen? ⟨b, 0, none⟩ = false ∧ w.frozen? ⟨b, 1, none⟩ = false ∧ w.frozen? ⟨b, 2, none⟩ = false) :=
  ⟨cells3_of h, Lib.frozen_of_heap h 0, Lib.frozen_of_heap h 1, Lib.frozen_of_heap h 2⟩
theorem set3 {w1 : World} {B : Nat} {c0 c1 c2 : Value} (a b c : Value) (h : w1.cell? ⟨B, 0, none⟩ = some c0 ∧ w1.cell? ⟨B, 1, none⟩ = some c1 ∧ w1.cell? ⟨B, 2, none⟩ = some c2) :
    (((w1.setCell ⟨B, 0, none⟩ a).setCell ⟨B, 1, none⟩ b).setCell ⟨B, 2, none⟩ c).cell? ⟨B, 0, none⟩ = some a ∧
    (((w1.setCell ⟨B, 0, none⟩ a).setCell ⟨B, 1, none⟩ b).setCell ⟨B, 2, none⟩ c).cell? ⟨B, 1, none⟩ = some b ∧
    (((w1.setCell ⟨B, 0, none⟩ a).setCell ⟨B, 1, none⟩ b).setCell ⟨B, 2, none⟩ c).cell? ⟨B, 2, none⟩ = some c := by
  obtain ⟨h0, h1, h2⟩ := h
  refine ⟨?_, ?_, ?_⟩
  · rw [World.cell?_setCell_other _ _ _ _ (by simp), World.cell?_setCell_other _ _ _ _ (by simp), World.cell?_setCell_same _ _ _ h0]
  · rw [World.cell?_setCell_other _ _ _ _ (by simp), World.cell?_setCell_same (u := c1)]
    rw [World.cell?_setCell_other _ _ _ _ (by simp)]; exact h1
  · rw [World.cell?_setCell_same (u := c2)]
    rw [World.cell?_setCell_other _ _ _ _ (by simp), World.cell?_setCell_other _ _ _ _ (by simp)]; exact h2
theorem Kp.new3 {g B : Nat} {w w1 : World} (h : Kp g w w1) (hB : w.heap.size ≤ B) (_hg : g < w.heap.size) (a b c : Value) : Kp g w (((w1.setCell ⟨B, 0, none⟩ a).setCell ⟨B, 1, none⟩ b).setCell ⟨B, 2, none⟩ c) := by
  have one : ∀ {x : World} (o : Nat) (u : Value), Kp g w x → Kp g w (x.setCell ⟨B, o, none⟩ u) := fun {x} o u hx =>
    ⟨hx.os, hx.tape, hx.output, by have := hx.size; simpa [World.setCell] using this, fun k hk hkg => (Below.heap_setCell _ _ _ _ (by simp; omega)).trans (hx.block k hk hkg)⟩
  exact one 2 c (one 1 b (one 0 a h))

end Go.Proofs.YtaepbmcmggnmpaaDoor
