/-
  The contracts of slices.Grow (of nil) and slices.Concat (of two slices of entries), walked.
-/
import Derived.Test.YtcmplklefeicbaaV
import Derived.Lib.AppendZeros
namespace Go.Proofs.Ytcmplklefeicbaa
open Go.RowKit
set_option maxRecDepth 100000

theorem grow_nil (n : Nat) (hn : n ≤ 100000) (w : World) :
    Calls Try.prog 40 #[.slice none 0 0, .int .i64 (n : Int)] w fun e w' => ∃ v, e = .returned v ∧ w'.ownsRow w.heap.size 40 3 v 0 [] ∧ Bel w w' := by
  obtain ⟨i0, hi, hz0, hz1, hz2⟩ := info_parts info40
  have q0 : ¬ (n : Int) < 0 := by omega
  by_cases h0 : n = 0
  · subst h0
    go_enter Try.func40, Try.ntmps40
    go_wp2_with fail
    go_ret
    exact ⟨_, rfl, World.ownsRow_nil _ _ _ _, Below.refl _ _⟩
  · have happ := Lib.run_append_nil_zeros (P := Try.prog) w 28 3 28 40 i0 _ .i64 .i64 Try.underlying28 Try.underlying3 hi hz0 n (by omega) (by rw [hz1]; omega) (by omega) (by rw [hz2]; omega)
    have hcap : n ≤ grownCap w n 0 40 := grownCap_ge _ _ _ _
    have hm : grownCap w n 0 40 ≤ maxLen := grownCap_le_maxLen _ _ _ _ (by unfold maxLen; omega)
    have hown := World.ownsRow_made (base := w.heap.size) (e := 40) (size := 3) w.drew (Builtin.zeroCells (Value.cells (.agg #[.string ⟨#[]⟩, .string ⟨#[]⟩, .bool false])) n ++ Builtin.zeroCells (Value.cells (.agg #[.string ⟨#[]⟩, .string ⟨#[]⟩, .bool false])) (grownCap w n 0 40 - n)) (grownCap w n 0 40) (Nat.le_refl _) hm (by rw [Array.size_append, size_zeroCells, size_zeroCells, ← Nat.add_mul, show n + (grownCap w n 0 40 - n) = grownCap w n 0 40 by omega]; rfl)
    have hb : Bel w (w.drew.alloc (.cells (Builtin.zeroCells (Value.cells (.agg #[.string ⟨#[]⟩, .string ⟨#[]⟩, .bool false])) n ++ Builtin.zeroCells (Value.cells (.agg #[.string ⟨#[]⟩, .string ⟨#[]⟩, .bool false])) (grownCap w n 0 40 - n)) 40)) := Bel.al (Bel.dr (Below.refl _ _)) _
    generalize w.drew.alloc (.cells (Builtin.zeroCells (Value.cells (.agg #[.string ⟨#[]⟩, .string ⟨#[]⟩, .bool false])) n ++ Builtin.zeroCells (Value.cells (.agg #[.string ⟨#[]⟩, .string ⟨#[]⟩, .bool false])) (grownCap w n 0 40 - n)) 40) = w1 at *
    have q1 : (0 : Int) < (n : Int) := by omega
    go_enter Try.func40, Try.ntmps40
    go_wp2_with (at_builtin; refine Lib.wpList_append_run _ rfl _ _ _ _ rfl _ _ rfl rfl _ _ happ ?_)
    go_ret
    exact ⟨_, rfl, hown, hb⟩
set_option maxHeartbeats 2000000 in
theorem concat_two (g b1 o1 c1 b2 o2 c2 : Nat) (L1 L2 : List M.En) (w : World) (hl1 : L1.length ≤ 1000) (hl2 : L2.length ≤ 1000) (hx1 : w.cell? ⟨g, 0, none⟩ = some (.slice (some ⟨b1, o1, none⟩) L1.length c1)) (hx2 : w.cell? ⟨g, 1, none⟩ = some (.slice (some ⟨b2, o2, none⟩) L2.length c2)) (hb1 : b1 < w.heap.size) (hb2 : b2 < w.heap.size) (hr1 : Row3 w b1 o1 L1) (hr2 : Row3 w b2 o2 L2) :
    Calls Try.prog 31 #[.slice (some ⟨g, 0, none⟩) 2 2] w fun e w' => ∃ v, e = .returned v ∧ w'.ownsRow w.heap.size 40 3 v (L1 ++ L2).length (csE (L1 ++ L2)) ∧ Bel w w' := by
  obtain ⟨i0, hi, hz0, hz1, hz2⟩ := info_parts info40
  have hg : g < w.heap.size := block_lt_of_cell hx1
  have HG : Hid (∀ W, Calls Try.prog 40 #[.slice none 0 0, .int .i64 ((L1.length : Int) + (L2.length : Int))] W fun e w' => ∃ v, e = .returned v ∧ w'.ownsRow W.heap.size 40 3 v 0 [] ∧ Bel W w') := fun W => by
    have := grow_nil (L1.length + L2.length) (by omega) W
    rwa [Int.natCast_add] at this
  go_enter Try.func31, Try.ntmps31
  go_wp2_with fail
  refine wp_loop_rounds 3 ?_
  rw [rounds_succ]
  go_wp2_with fail
  rw [rounds_succ]
  go_wp2_with fail
  rw [rounds_succ]
  go_wp2_with fail
  refine (HG.out _).mono ?_
  rintro e w1 ⟨v1, rfl, r1, k1⟩
  obtain ⟨a1, d1, rfl⟩ := row_form r1
  have y1 := (bel_cell k1 hg 0).trans hx1
  have y2 := (bel_cell k1 hg 1).trans hx2
  have cs1 := row3_cells (hr1.below k1 hb1)
  obtain ⟨v2, w2, g1, g2, g3, _, g5⟩ := run_append_own_at (P := Try.prog) w1 w.heap.size 28 28 40 i0 _ 3 40 Try.underlying28 hi hz0 hz1 hz2 rfl (by decide) _ 0 [] r1 ⟨b1, o1, none⟩ L1.length c1 (csE L1) (csE_length L1) (fun j u hj => by rw [add_lit]; exact cs1 j u hj) (csE_one _) (by unfold maxLen; omega) (by omega) k1.size
  rw [Nat.zero_add, List.nil_append] at g2
  have k2 : Bel w w2 := Below.grown k1 g3 k1.size (fun k hk => (r1.lt k hk).1)
  obtain ⟨a2, d2, rfl⟩ := row_form g2
  have cs2 := row3_cells (hr2.below k2 hb2)
  obtain ⟨v3, w3, f1, f2, f3, _, f5⟩ := run_append_own_at (P := Try.prog) w2 w.heap.size 28 28 40 i0 _ 3 40 Try.underlying28 hi hz0 hz1 hz2 rfl (by decide) _ L1.length (csE L1) g2 ⟨b2, o2, none⟩ L2.length c2 (csE L2) (csE_length L2) (fun j u hj => by rw [add_lit]; exact cs2 j u hj) (csE_one _) (by unfold maxLen; omega) (by omega) k2.size
  have k3 : Bel w w3 := Below.grown k2 f3 k2.size (fun k hk => (g2.lt k hk).1)
  have z2 := (bel_cell k2 hg 1).trans hx2
  obtain ⟨a3, d3, rfl⟩ := row_form f2
  clear y2 hx1 hx2 cs1 cs2 hr1 hr2
  go_wp2_with fail
  refine wp_loop_rounds 3 ?_
  rw [rounds_succ]
  go_wp2_with (at_builtin; refine appL rfl _ _ rfl rfl rfl g1 ?_)
  rw [rounds_succ]
  go_wp2_with (at_builtin; refine appL rfl _ _ rfl rfl rfl f1 ?_)
  rw [rounds_succ]
  go_wp2_with fail
  go_ret
  exact ⟨.slice a3 (L1.length + L2.length) d3, rfl, by rw [csE_append, List.length_append]; exact f2, k3⟩
end Go.Proofs.Ytcmplklefeicbaa
