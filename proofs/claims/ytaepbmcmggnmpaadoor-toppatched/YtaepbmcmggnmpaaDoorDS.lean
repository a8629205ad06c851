/-
  The contract of the document's own Decode for layer 5, walked: the ways that read no page.
-/
import Derived.Test.YtaepbmcmggnmpaaDoorNW
import Derived.Test.YtaepbmcmggnmpaaDoorDA
import Derived.Test.YtaepbmcmggnmpaaDoorRN
namespace Go.Proofs.YtaepbmcmggnmpaaDoor
open Go.RowKit
set_option maxRecDepth 100000 in
set_option maxHeartbeats 2000000 in
theorem rdecode_short (l : List UInt8) (w : World) (hl : l.length < 512) : Calls Tryd.prog 23 #[.string (M.bs l)] w fun e w' => ∃ v, e = .returned (.tuple #[pv M.zeroP v, .int .i64 3]) ∧ Vals w' v M.zeroP.es ∧ Bel w w' := by
  have z : (M.bs l).size = l.length := M.bs_size l
  have bW : Bel w (w.alloc (.cells #[.int .i64 0, .int .i64 0, .int .i64 0, .int .i64 0, .string ⟨#[]⟩, .slice none 0 0] 32)) := Bel.al (Below.refl _ _) _
  have q1 : ((l.length : Int) < 512) := by omega

  go_enter Tryd.func23, Tryd.ntmps23
  go_wp2_with fail
  refine bodyPost_ret (v := .tuple #[pv M.zeroP (.slice none 0 0), .int .i64 3]) (by simp [results, Tryd.results23, go_sem, pv, M.zeroP]; rfl) rfl ?_
  exact ⟨_, rfl, ⟨none, 0, rfl, .inl rfl⟩, bW⟩
set_option maxRecDepth 100000 in
set_option maxHeartbeats 2000000 in
theorem rdecode_long (l : List UInt8) (w : World) (hl : 512 < l.length) (hl2 : l.length ≤ 100000) : Calls Tryd.prog 23 #[.string (M.bs l)] w fun e w' => ∃ v, e = .returned (.tuple #[pv M.zeroP v, .int .i64 6]) ∧ Vals w' v M.zeroP.es ∧ Bel w w' := by
  have z : (M.bs l).size = l.length := M.bs_size l
  have bW : Bel w (w.alloc (.cells #[.int .i64 0, .int .i64 0, .int .i64 0, .int .i64 0, .string ⟨#[]⟩, .slice none 0 0] 32)) := Bel.al (Below.refl _ _) _
  have q1 : ¬ ((l.length : Int) < 512) := by omega
  have q2 : ((512 : Int) < (l.length : Int)) := by omega

  go_enter Tryd.func23, Tryd.ntmps23
  go_wp2_with fail
  refine bodyPost_ret (v := .tuple #[pv M.zeroP (.slice none 0 0), .int .i64 6]) (by simp [results, Tryd.results23, go_sem, pv, M.zeroP]; rfl) rfl ?_
  exact ⟨_, rfl, ⟨none, 0, rfl, .inl rfl⟩, bW⟩
set_option maxRecDepth 100000 in
set_option maxHeartbeats 2000000 in
theorem rdecode_zero (l : List UInt8) (w : World) (hl : l.length = 512) (hn : M.noughts l = true) : Calls Tryd.prog 23 #[.string (M.bs l)] w fun e w' => ∃ v, e = .returned (.tuple #[pv M.zeroP v, .int .i64 0]) ∧ Vals w' v M.zeroP.es ∧ Bel w w' := by
  have z : (M.bs l).size = l.length := M.bs_size l
  have bW : Bel w (w.alloc (.cells #[.int .i64 0, .int .i64 0, .int .i64 0, .int .i64 0, .string ⟨#[]⟩, .slice none 0 0] 32)) := Bel.al (Below.refl _ _) _
  have r0 : Bt 32 (w.alloc (.cells #[.int .i64 0, .int .i64 0, .int .i64 0, .int .i64 0, .string ⟨#[]⟩, .slice none 0 0] 32)) w.heap.size (.int .i64 0) (.int .i64 0) (.int .i64 0) (.int .i64 0) (.string ⟨#[]⟩) (.slice none 0 0) := heap_alloc_new w _
  have Q1 := fun W => rnothing_any l W (by omega)
  rw [hn] at Q1
  rw [hl] at z

  go_enter Tryd.func23, Tryd.ntmps23
  go_wp2_with fail
  generalize w.alloc (.cells #[.int .i64 0, .int .i64 0, .int .i64 0, .int .i64 0, .string ⟨#[]⟩, .slice none 0 0] 32) = W0 at *
  refine (Q1 _).mono ?_
  rintro e w1 ⟨rfl, rfl⟩
  obtain ⟨z0, z1, z2, z3, z4, z5⟩ := r0.cells
  have y0 := r0.froz 0
  have y1 := r0.froz 1
  have y2 := r0.froz 2
  have y3 := r0.froz 3
  have y4 := r0.froz 4
  have y5 := r0.froz 5
  have R0 := hid r0
  have BW := hid bW
  clear r0 bW
  go_wp2_with fail
  clear z0 z1 z2 z3 z4 z5 y0 y1 y2 y3 y4 y5
  have q := R0.out.six (.int .i64 0) (.int .i64 0) (.int .i64 0) (.int .i64 0) (.string ⟨#[]⟩) (.slice none 0 0)
  have b7 := BW.out.six (Nat.le_refl _) (.int .i64 0) (.int .i64 0) (.int .i64 0) (.int .i64 0) (.string ⟨#[]⟩) (.slice none 0 0)
  rw [six] at q b7
  generalize World.setCell _ ⟨w.heap.size, 5, none⟩ (.slice none 0 0) = W9 at *
  obtain ⟨z0, z1, z2, z3, z4, z5⟩ := q.cells
  refine bodyPost_ret (v := .tuple #[pv M.zeroP (.slice none 0 0), .int .i64 0]) (by simp [results, Tryd.results23, go_sem, pv, M.zeroP, z0, z1, z2, z3, z4, z5]; rfl) rfl ?_
  exact ⟨_, rfl, ⟨none, 0, rfl, .inl rfl⟩, b7⟩
set_option maxRecDepth 100000 in
set_option maxHeartbeats 2000000 in
theorem rdecode_sum (l : List UInt8) (w : World) (hl : l.length = 512) (hn : M.noughts l = false) (hw : M.wholeR l = false) : Calls Tryd.prog 23 #[.string (M.bs l)] w fun e w' => ∃ v, e = .returned (.tuple #[pv M.zeroP v, .int .i64 5]) ∧ Vals w' v M.zeroP.es ∧ Bel w w' := by
  have z : (M.bs l).size = l.length := M.bs_size l
  have bW : Bel w (w.alloc (.cells #[.int .i64 0, .int .i64 0, .int .i64 0, .int .i64 0, .string ⟨#[]⟩, .slice none 0 0] 32)) := Bel.al (Below.refl _ _) _
  have r0 : Bt 32 (w.alloc (.cells #[.int .i64 0, .int .i64 0, .int .i64 0, .int .i64 0, .string ⟨#[]⟩, .slice none 0 0] 32)) w.heap.size (.int .i64 0) (.int .i64 0) (.int .i64 0) (.int .i64 0) (.string ⟨#[]⟩) (.slice none 0 0) := heap_alloc_new w _
  have Q1 := fun W => rnothing_any l W (by omega)
  rw [hn] at Q1
  have Q2 := fun W => rwhole_any l W hl
  rw [hw] at Q2
  rw [hl] at z
  go_enter Tryd.func23, Tryd.ntmps23
  go_wp2_with fail
  generalize w.alloc (.cells #[.int .i64 0, .int .i64 0, .int .i64 0, .int .i64 0, .string ⟨#[]⟩, .slice none 0 0] 32) = W0 at *
  refine (Q1 _).mono ?_
  rintro e w1 ⟨rfl, rfl⟩
  go_wp2_with fail
  refine (Q2 _).mono ?_
  rintro e w2 ⟨rfl, b2⟩
  have r0 := r0.bel b2
  have bW := bW.tr b2
  clear b2
  obtain ⟨z0, z1, z2, z3, z4, z5⟩ := r0.cells
  have y0 := r0.froz 0
  have y1 := r0.froz 1
  have y2 := r0.froz 2
  have y3 := r0.froz 3
  have y4 := r0.froz 4
  have y5 := r0.froz 5
  have R0 := hid r0
  have BW := hid bW
  clear r0 bW
  go_wp2_with fail
  clear z0 z1 z2 z3 z4 z5 y0 y1 y2 y3 y4 y5
  have q := R0.out.six (.int .i64 0) (.int .i64 0) (.int .i64 0) (.int .i64 0) (.string ⟨#[]⟩) (.slice none 0 0)
  have b7 := BW.out.six (Nat.le_refl _) (.int .i64 0) (.int .i64 0) (.int .i64 0) (.int .i64 0) (.string ⟨#[]⟩) (.slice none 0 0)
  rw [six] at q b7
  generalize World.setCell _ ⟨w.heap.size, 5, none⟩ (.slice none 0 0) = W9 at *
  obtain ⟨z0, z1, z2, z3, z4, z5⟩ := q.cells
  refine bodyPost_ret (v := .tuple #[pv M.zeroP (.slice none 0 0), .int .i64 5]) (by simp [results, Tryd.results23, go_sem, pv, M.zeroP, z0, z1, z2, z3, z4, z5]; rfl) rfl ?_
  exact ⟨_, rfl, ⟨none, 0, rfl, .inl rfl⟩, b7⟩
end Go.Proofs.YtaepbmcmggnmpaaDoor
