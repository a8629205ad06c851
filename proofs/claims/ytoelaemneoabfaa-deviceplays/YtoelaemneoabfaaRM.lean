/-
  The reference of layer 3: Write, walked.
-/
import Derived.Test.YtoelaemneoabfaaRL
namespace Go.Proofs.Ytoelaemneoabfaa
open Go.RowKit

theorem row_slice {w : World} {base : Nat} {e : TypeId} {size : Nat} {v : Value} {n : Nat} {xs : List Value} (h : w.ownsRow base e size v n xs) : ∃ p n' c, v = .slice p n' c := by
  rcases h.2 with ⟨rfl, _⟩ | ⟨g, cap, cur, rfl, _⟩
  · exact ⟨_, _, _, rfl⟩
  · exact ⟨_, _, _, rfl⟩
/-- What lies ready, when a write is to be appended. -/
theorem write_ahead (Y : Nat → Prop) (b : Nat) (R : Rf) (i : Int) (t : M.Tx) (w : World) (h : Ref Y w b R) (hy : ∀ j, Y j → j < w.heap.size) (ha : R.at'.length ≤ 1000) :
    ∃ aa acap da dcap p1 n1 c1 w2 p2 n2 c2 w3 p3 n3 c3 w5, (w.alloc (.cells #[] 3)).cell? ⟨b, 1, none⟩ = some (.slice aa R.at'.length acap) ∧
      (Builtin.append_ #[29, 29] 29 #[.slice (some ⟨w.heap.size, 0, none⟩) 0 0, .slice aa R.at'.length acap]).run Try.prog (w.alloc (.cells #[] 3)) = .ok (.slice p1 n1 c1) w2 ∧
      (Builtin.append_ #[29, 29] 29 #[.slice p1 n1 c1, .slice (some ⟨w2.heap.size, 0, none⟩) 1 1]).run Try.prog (w2.alloc (.cells #[.int .i64 i] 3)) = .ok (.slice p2 n2 c2) w3 ∧
      w3.cell? ⟨b, 1, none⟩ = some (.slice aa R.at'.length acap) ∧ w3.frozen? ⟨b, 1, none⟩ = false ∧
      ((w3.setCell ⟨b, 1, none⟩ (.slice p2 n2 c2)).alloc (.cells #[] 9)).cell? ⟨b, 2, none⟩ = some (.slice da R.data.length dcap) ∧
      (Builtin.append_ #[28, 28] 28 #[.slice (some ⟨w3.heap.size, 0, none⟩) 0 0, .slice da R.data.length dcap]).run Try.prog ((w3.setCell ⟨b, 1, none⟩ (.slice p2 n2 c2)).alloc (.cells #[] 9)) = .ok (.slice p3 n3 c3) w5 ∧
      Hid (∀ w6, Bel w5 w6 → ∃ p4 n4 c4 w7, (Builtin.append_ #[28, 28] 28 #[.slice p3 n3 c3, .slice (some ⟨w6.heap.size, 0, none⟩) 1 1]).run Try.prog (w6.alloc (.cells #[.string (M.bs t)] 9)) = .ok (.slice p4 n4 c4) w7 ∧
        w7.cell? ⟨b, 2, none⟩ = some (.slice da R.data.length dcap) ∧ w7.frozen? ⟨b, 2, none⟩ = false ∧
        Hid (Ref (fun j => Y j ∨ (w.heap.size ≤ j ∧ j < (w7.setCell ⟨b, 2, none⟩ (.slice p4 n4 c4)).heap.size)) (w7.setCell ⟨b, 2, none⟩ (.slice p4 n4 c4)) b { R with at' := R.at' ++ [i], data := R.data ++ [t] } ∧ Keep (fun j => j ≠ b ∧ j < w.heap.size) w (w7.setCell ⟨b, 2, none⟩ (.slice p4 n4 c4)))) := by
  obtain ⟨lv, av, dv, kv, h⟩ := h
  have hbl := h.blk.lt
  obtain ⟨aa, acap, rfl, _⟩ := id h.at'
  obtain ⟨da, dcap, rfl, _⟩ := id h.data
  obtain ⟨v1, w2, r1, o1, k1⟩ := cpN h.at' (by omega)
  obtain ⟨v2, w3, r2, o2, k2⟩ := ap1N rfl o1 i (by omega) k1.size
  obtain ⟨p1, n1, c1, rfl⟩ := row_slice o1
  obtain ⟨p2, n2, c2, rfl⟩ := row_slice o2
  have k3 : Bel w w3 := k1.trans k2
  have hblk3 : Blk w3 b _ 31 := h.blk.below k3 hbl
  have hz4 : (w3.setCell ⟨b, 1, none⟩ (.slice p2 n2 c2)).heap.size = w3.heap.size := by simp [World.setCell]
  have s4 : Keep (fun j => j ≠ b) w3 (w3.setCell ⟨b, 1, none⟩ (.slice p2 n2 c2)) := (Keep.refl _ w3).set (p := ⟨b, 1, none⟩) (by simp) (.slice p2 n2 c2)
  have k4 : Keep (fun j => j ≠ b ∧ j < w.heap.size) w (w3.setCell ⟨b, 1, none⟩ (.slice p2 n2 c2)) := (Keep.of_bel (X := fun j => j ≠ b ∧ j < w.heap.size) k3 (fun _ h => h.2)).tr (s4.weak fun _ h => h.1)
  have hblk4 : Blk (w3.setCell ⟨b, 1, none⟩ (.slice p2 n2 c2)) b #[lv, .slice p2 n2 c2, .slice da R.data.length dcap, .bool R.off, .int .i64 R.fuse, kv, .int .i64 R.cmds] 31 := by
    have z := hblk3.set 1 (.slice p2 n2 c2)
    simpa using z
  have e1 : w3.cell? ⟨b, 1, none⟩ = some (.slice aa R.at'.length acap) := by rw [hblk3.cell]; rfl
  have e2 := hblk3.frozen 1
  have hsT : SeesT (fun j => Y j ∧ j ≠ b) (w3.setCell ⟨b, 1, none⟩ (.slice p2 n2 c2)) (.slice da R.data.length dcap) R.data := h.data.keep (k4.weak fun j hj => ⟨hj.2, hy j hj.1⟩)
  have hlT : SeesT (fun j => Y j ∧ j ≠ b) (w3.setCell ⟨b, 1, none⟩ (.slice p2 n2 c2)) lv R.last := h.last.keep (k4.weak fun j hj => ⟨hj.2, hy j hj.1⟩)
  have hkN : SeesN (fun j => Y j ∧ j ≠ b) (w3.setCell ⟨b, 1, none⟩ (.slice p2 n2 c2)) kv R.keep := h.keep.keep (k4.weak fun j hj => ⟨hj.2, hy j hj.1⟩)
  have hat : SeesN (fun j => w.heap.size ≤ j ∧ j < w3.heap.size) (w3.setCell ⟨b, 1, none⟩ (.slice p2 n2 c2)) (.slice p2 n2 c2) (R.at' ++ [i]) :=
    (seesN_own (by rw [List.length_append]; exact o2) (by simp) (fun j => w.heap.size ≤ j ∧ j < w3.heap.size) (fun g h0 h1 => ⟨h0, h1⟩)).keep (s4.weak fun j hj => by omega)
  have hsz3 := k3.size
  generalize hW : w3.setCell ⟨b, 1, none⟩ (.slice p2 n2 c2) = W4 at *
  obtain ⟨v3, w5, r3, o3, k5⟩ := cpT hsT (by rw [← h.len]; omega)
  obtain ⟨p3, n3, c3, rfl⟩ := row_slice o3
  refine ⟨aa, acap, da, dcap, p1, n1, c1, w2, p2, n2, c2, w3, p3, n3, c3, w5, ?_, r1, r2, e1, e2, ?_, by rw [hW, ← hz4]; exact r3, ?_⟩
  · exact (bel_cell (Bel.al (Below.refl _ _) _) hbl 1).trans (by rw [h.blk.cell]; rfl)
  · rw [hW]
    exact (bel_cell (Bel.al (Below.refl _ _) _) (by omega) 2).trans (by rw [hblk4.cell]; rfl)
  intro w6 k6
  obtain ⟨v4, w7, r4, o4, k7⟩ := ap1T rfl (own_kept o3 k6) t (by rw [← h.len]; omega) (Nat.le_trans k5.size k6.size)
  obtain ⟨p4, n4, c4, rfl⟩ := row_slice o4
  have k47 : Bel W4 w7 := (Below.trans k5 (Below.mono k6 k5.size)).trans k7
  have hblk7 : Blk w7 b _ 31 := hblk4.below k47 (by omega)
  have s8 : Keep (fun j => j ≠ b) w7 (w7.setCell ⟨b, 2, none⟩ (.slice p4 n4 c4)) := (Keep.refl _ w7).set (p := ⟨b, 2, none⟩) (by simp) (.slice p4 n4 c4)
  have k48 : Keep (fun j => j ≠ b ∧ j < W4.heap.size) W4 (w7.setCell ⟨b, 2, none⟩ (.slice p4 n4 c4)) := (Keep.of_bel (X := fun j => j ≠ b ∧ j < W4.heap.size) k47 (fun _ h => h.2)).tr (s8.weak fun _ h => h.1)
  have z8 := s8.size
  have z7 := k47.size
  refine ⟨p4, n4, c4, w7, r4, by rw [hblk7.cell]; rfl, hblk7.frozen 2, ⟨lv, .slice p2 n2 c2, .slice p4 n4 c4, kv, ?_, ?_, ?_, ?_, ?_, by simpa using h.len, .inl h.yb⟩, k4.tr (k48.weak fun j hj => ⟨hj.1, by omega⟩)⟩
  · have z := hblk7.set 2 (.slice p4 n4 c4)
    simpa using z
  · exact (hlT.keep (k48.weak fun j hj => ⟨hj.2, by have := hy j hj.1; omega⟩)).weak fun j hj => ⟨.inl hj.1, hj.2⟩
  · exact (hat.keep (k48.weak fun j hj => ⟨by omega, by omega⟩)).weak fun j hj => ⟨.inr ⟨hj.1, by omega⟩, by omega⟩
  · exact ((seesT_own (by rw [List.length_append]; exact o4) (by simp) (fun j => W4.heap.size ≤ j ∧ j < w7.heap.size) (fun g h0 h1 => ⟨h0, h1⟩)).keep (s8.weak fun j hj => by omega)).weak fun j hj => ⟨.inr ⟨by omega, by omega⟩, by omega⟩
  · exact (hkN.keep (k48.weak fun j hj => ⟨hj.2, by have := hy j hj.1; omega⟩)).weak fun j hj => ⟨.inl hj.1, hj.2⟩
end Go.Proofs.Ytoelaemneoabfaa
