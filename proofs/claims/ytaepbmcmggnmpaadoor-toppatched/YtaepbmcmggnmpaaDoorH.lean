/-
  The contract of page.Decode, walked.
-/
import Derived.Test.YtaepbmcmggnmpaaDoorG
namespace Go.Proofs.YtaepbmcmggnmpaaDoor
open Go.RowKit
namespace M
def decodeN (s : List UInt8) : Pg × Nat :=
  if s.length < 512 then (zeroP, 3) else if 512 < s.length then (zeroP, 6) else if noughts s = true then (zeroP, 0) else if whole s = true then
    (if (pageN (bodyL s)).2 = true then ({ (pageN (bodyL s)).1 with lsn := lsnL s }, 0) else (zeroP, 2)) else (zeroP, 5)
end M
set_option maxRecDepth 100000 in
set_option maxHeartbeats 4000000 in
theorem decode_good (l : List UInt8) (w : World) (hT : Tab w) (hl : l.length = 512) (hn : M.noughts l = false) (hw : M.whole l = true) (hok : (M.pageN (M.bodyL l)).2 = true) :
    Calls Tryd.prog 17 #[.string (M.bs l)] w fun e w' => ∃ v, e = .returned (.tuple #[pv { (M.pageN (M.bodyL l)).1 with lsn := M.lsnL l } v, .int .i64 0]) ∧ Vals w' v (M.pageN (M.bodyL l)).1.es ∧ Bel w w' := by
  have Q1 := fun W => noughts_any l W (by omega)
  rw [hn] at Q1
  have Q2 := fun W h => whole_any l W h (by omega)
  rw [hw] at Q2
  have Q3 := fun W => body_any l W
  have hb : (M.bodyL l).length ≤ 600 := by unfold M.bodyL; rw [if_pos hl, List.length_take]; omega
  have Q4 := fun W => pageOf_any (M.bodyL l) W hb
  have Q5 := fun W => lsn_any l W
  have z : (M.bs l).size = 512 := by rw [M.bs_size]; exact hl
  rw [hok] at Q4
  clear hok hb hn hw
  obtain ⟨p, hp⟩ : ∃ p, (M.pageN (M.bodyL l)).1 = p := ⟨_, rfl⟩
  rw [hp] at Q4 ⊢
  clear hp
  obtain ⟨p0, p1, p2, p3, p4, p5⟩ := p
  generalize M.bodyL l = bd at *
  generalize M.lsnL l = ln at *
  simp only [pv] at Q4 ⊢
  go_enter Tryd.func17, Tryd.ntmps17
  go_wp2_with fail
  have bW : Bel w (w.alloc (.cells #[.int .i64 0, .int .i64 0, .int .i64 0, .int .i64 0, .string ⟨#[]⟩, .slice none 0 0] 29)) := Bel.al (Below.refl _ _) _
  have r0 : B6 (w.alloc (.cells #[.int .i64 0, .int .i64 0, .int .i64 0, .int .i64 0, .string ⟨#[]⟩, .slice none 0 0] 29)) w.heap.size (.int .i64 0) (.int .i64 0) (.int .i64 0) (.int .i64 0) (.string ⟨#[]⟩) (.slice none 0 0) := heap_alloc_new w _
  generalize w.alloc (.cells #[.int .i64 0, .int .i64 0, .int .i64 0, .int .i64 0, .string ⟨#[]⟩, .slice none 0 0] 29) = W0 at *
  refine (Q1 _).mono ?_
  rintro e w1 ⟨rfl, rfl⟩
  go_wp2_with fail
  refine (Q2 _ (hT.bel bW)).mono ?_
  rintro e w2 ⟨rfl, b2⟩
  go_wp2_with fail
  refine (Q3 _).mono ?_
  rintro e w3 ⟨rfl, rfl⟩
  go_wp2_with fail
  refine (Q4 _).mono ?_
  rintro e w4 ⟨v, rfl, o4, b4⟩
  have r4 := r0.bel (b2.tr b4)
  have bb4 := bW.tr (b2.tr b4)
  have hv4 := o4.vals
  obtain ⟨ao, cp, hvf, _⟩ := id hv4
  subst hvf
  clear r0 bW b2 b4
  go_wp2_with fail
  have bW : Bel w4 (w4.alloc (.cells #[.int .i64 p0, .int .i64 p1, .int .i64 p2, .int .i64 p3, .string (M.bs p4), .slice ao p5.length cp] 29)) := Bel.al (Below.refl _ _) _
  have r5 : B6 (w4.alloc (.cells #[.int .i64 p0, .int .i64 p1, .int .i64 p2, .int .i64 p3, .string (M.bs p4), .slice ao p5.length cp] 29)) w4.heap.size (.int .i64 p0) (.int .i64 p1) (.int .i64 p2) (.int .i64 p3) (.string (M.bs p4)) (.slice ao p5.length cp) := heap_alloc_new w4 _
  generalize w4.alloc (.cells #[.int .i64 p0, .int .i64 p1, .int .i64 p2, .int .i64 p3, .string (M.bs p4), .slice ao p5.length cp] 29) = W5 at *
  refine (Q5 _).mono ?_
  rintro e w6 ⟨rfl, rfl⟩
  have hlt := r4.lt
  have hge := bb4.size
  have r6 := r4.bel bW
  have o5 := o4.bel bW
  have bb5 := bb4.tr bW
  obtain ⟨z0, z1, z2, z3, z4, z5⟩ := r6.cells
  obtain ⟨s0, s1, s2, s3, s4, s5⟩ := r5.cells
  have y0 := r6.froz 0
  have y1 := r6.froz 1
  have y2 := r6.froz 2
  have y3 := r6.froz 3
  have y4 := r6.froz 4
  have y5 := r6.froz 5
  have u0 := r5.froz 0
  have hne : w.heap.size ≠ w4.heap.size := by omega
  have hne' : w4.heap.size ≠ w.heap.size := by omega
  have O5 := hid o5
  have R5 := hid r5
  have R6 := hid r6
  have B5 := hid bb5
  clear o4 o5 r4 bb4 bW hv4 r5 r6 bb5
  go_wp2_with fail
  clear s0 s1 s2 s3 s4 s5 z0 z1 z2 z3 z4 z5 y0 y1 y2 y3 y4 y5 u0
  have n5 := OwnE.ne O5.out R5.out (by decide)
  have n6 := OwnE.ne O5.out R6.out (by decide)
  have q0 : B6 (W5.setCell ⟨w4.heap.size, 0, none⟩ (.int .i64 (ln : Int))) w.heap.size (.int .i64 0) (.int .i64 0) (.int .i64 0) (.int .i64 0) (.string ⟨#[]⟩) (.slice none 0 0) := B6.other R6.out hne
  have q := q0.six (.int .i64 (ln : Int)) (.int .i64 p1) (.int .i64 p2) (.int .i64 p3) (.string (M.bs p4)) (.slice ao p5.length cp)
  have o0 : OwnE 71 (W5.setCell ⟨w4.heap.size, 0, none⟩ (.int .i64 (ln : Int))) w2.heap.size (.slice ao p5.length cp) p5 := OwnE.set O5.out n5
  have o6 := o0.six n6 (.int .i64 (ln : Int)) (.int .i64 p1) (.int .i64 p2) (.int .i64 p3) (.string (M.bs p4)) (.slice ao p5.length cp)
  have b0 : Bel w (W5.setCell ⟨w4.heap.size, 0, none⟩ (.int .i64 (ln : Int))) := Below.setCell B5.out (by show _ ≤ w4.heap.size; omega) _
  have b6 := b0.six (Nat.le_refl _) (.int .i64 (ln : Int)) (.int .i64 p1) (.int .i64 p2) (.int .i64 p3) (.string (M.bs p4)) (.slice ao p5.length cp)
  rw [six] at q o6 b6
  generalize World.setCell _ ⟨w.heap.size, 5, none⟩ (.slice ao p5.length cp) = W9 at *
  obtain ⟨z0, z1, z2, z3, z4, z5⟩ := q.cells
  refine bodyPost_ret (v := .tuple #[.agg #[.int .i64 (ln : Int), .int .i64 p1, .int .i64 p2, .int .i64 p3, .string (M.bs p4), .slice ao p5.length cp], .int .i64 0]) (by simp [results, Tryd.results17, go_sem, z0, z1, z2, z3, z4, z5]) rfl ⟨_, rfl, o6.vals, b6⟩
set_option maxRecDepth 100000 in
set_option maxHeartbeats 2000000 in
theorem decode_short (l : List UInt8) (w : World) (_hT : Tab w) (hl : l.length < 512) : Calls Tryd.prog 17 #[.string (M.bs l)] w fun e w' => ∃ v, e = .returned (.tuple #[pv M.zeroP v, .int .i64 3]) ∧ Vals w' v M.zeroP.es ∧ Bel w w' := by
  have z : (M.bs l).size = l.length := M.bs_size l
  have bW : Bel w (w.alloc (.cells #[.int .i64 0, .int .i64 0, .int .i64 0, .int .i64 0, .string ⟨#[]⟩, .slice none 0 0] 29)) := Bel.al (Below.refl _ _) _
  have q1 : ((l.length : Int) < 512) := by omega

  go_enter Tryd.func17, Tryd.ntmps17
  go_wp2_with fail
  refine bodyPost_ret (v := .tuple #[pv M.zeroP (.slice none 0 0), .int .i64 3]) (by simp [results, Tryd.results17, go_sem, pv, M.zeroP]; rfl) rfl ?_
  exact ⟨_, rfl, ⟨none, 0, rfl, .inl rfl⟩, bW⟩
set_option maxRecDepth 100000 in
set_option maxHeartbeats 2000000 in
theorem decode_long (l : List UInt8) (w : World) (_hT : Tab w) (hl : 512 < l.length) (hl2 : l.length ≤ 100000) : Calls Tryd.prog 17 #[.string (M.bs l)] w fun e w' => ∃ v, e = .returned (.tuple #[pv M.zeroP v, .int .i64 6]) ∧ Vals w' v M.zeroP.es ∧ Bel w w' := by
  have z : (M.bs l).size = l.length := M.bs_size l
  have bW : Bel w (w.alloc (.cells #[.int .i64 0, .int .i64 0, .int .i64 0, .int .i64 0, .string ⟨#[]⟩, .slice none 0 0] 29)) := Bel.al (Below.refl _ _) _
  have q1 : ¬ ((l.length : Int) < 512) := by omega
  have q2 : ((512 : Int) < (l.length : Int)) := by omega

  go_enter Tryd.func17, Tryd.ntmps17
  go_wp2_with fail
  refine bodyPost_ret (v := .tuple #[pv M.zeroP (.slice none 0 0), .int .i64 6]) (by simp [results, Tryd.results17, go_sem, pv, M.zeroP]; rfl) rfl ?_
  exact ⟨_, rfl, ⟨none, 0, rfl, .inl rfl⟩, bW⟩
set_option maxRecDepth 100000 in
set_option maxHeartbeats 2000000 in
theorem decode_zero (l : List UInt8) (w : World) (_hT : Tab w) (hl : l.length = 512) (hn : M.noughts l = true) : Calls Tryd.prog 17 #[.string (M.bs l)] w fun e w' => ∃ v, e = .returned (.tuple #[pv M.zeroP v, .int .i64 0]) ∧ Vals w' v M.zeroP.es ∧ Bel w w' := by
  have z : (M.bs l).size = l.length := M.bs_size l
  have bW : Bel w (w.alloc (.cells #[.int .i64 0, .int .i64 0, .int .i64 0, .int .i64 0, .string ⟨#[]⟩, .slice none 0 0] 29)) := Bel.al (Below.refl _ _) _
  have r0 : B6 (w.alloc (.cells #[.int .i64 0, .int .i64 0, .int .i64 0, .int .i64 0, .string ⟨#[]⟩, .slice none 0 0] 29)) w.heap.size (.int .i64 0) (.int .i64 0) (.int .i64 0) (.int .i64 0) (.string ⟨#[]⟩) (.slice none 0 0) := heap_alloc_new w _
  have Q1 := fun W => noughts_any l W (by omega)
  rw [hn] at Q1
  rw [hl] at z

  go_enter Tryd.func17, Tryd.ntmps17
  go_wp2_with fail
  generalize w.alloc (.cells #[.int .i64 0, .int .i64 0, .int .i64 0, .int .i64 0, .string ⟨#[]⟩, .slice none 0 0] 29) = W0 at *
  refine (Q1 _).mono ?_
  rintro e w1 ⟨rfl, rfl⟩
  obtain ⟨z0, z1, z2, z3, z4, z5⟩ := r0.cells
  have y0 := r0.froz 0
  have y1 := r0.froz 1
  have y2 := r0.froz 2
  have y3 := r0.froz 3
  have y4 := r0.froz 4
  have y5 := r0.froz 5
  have R0 := hid r0
  have BW := hid bW
  clear r0 bW
  go_wp2_with fail
  clear z0 z1 z2 z3 z4 z5 y0 y1 y2 y3 y4 y5
  have q := R0.out.six (.int .i64 0) (.int .i64 0) (.int .i64 0) (.int .i64 0) (.string ⟨#[]⟩) (.slice none 0 0)
  have b7 := BW.out.six (Nat.le_refl _) (.int .i64 0) (.int .i64 0) (.int .i64 0) (.int .i64 0) (.string ⟨#[]⟩) (.slice none 0 0)
  rw [six] at q b7
  generalize World.setCell _ ⟨w.heap.size, 5, none⟩ (.slice none 0 0) = W9 at *
  obtain ⟨z0, z1, z2, z3, z4, z5⟩ := q.cells
  refine bodyPost_ret (v := .tuple #[pv M.zeroP (.slice none 0 0), .int .i64 0]) (by simp [results, Tryd.results17, go_sem, pv, M.zeroP, z0, z1, z2, z3, z4, z5]; rfl) rfl ?_
  exact ⟨_, rfl, ⟨none, 0, rfl, .inl rfl⟩, b7⟩
set_option maxRecDepth 100000 in
set_option maxHeartbeats 2000000 in
theorem decode_sum (l : List UInt8) (w : World) (hT : Tab w) (hl : l.length = 512) (hn : M.noughts l = false) (hw : M.whole l = false) : Calls Tryd.prog 17 #[.string (M.bs l)] w fun e w' => ∃ v, e = .returned (.tuple #[pv M.zeroP v, .int .i64 5]) ∧ Vals w' v M.zeroP.es ∧ Bel w w' := by
  have z : (M.bs l).size = l.length := M.bs_size l
  have bW : Bel w (w.alloc (.cells #[.int .i64 0, .int .i64 0, .int .i64 0, .int .i64 0, .string ⟨#[]⟩, .slice none 0 0] 29)) := Bel.al (Below.refl _ _) _
  have r0 : B6 (w.alloc (.cells #[.int .i64 0, .int .i64 0, .int .i64 0, .int .i64 0, .string ⟨#[]⟩, .slice none 0 0] 29)) w.heap.size (.int .i64 0) (.int .i64 0) (.int .i64 0) (.int .i64 0) (.string ⟨#[]⟩) (.slice none 0 0) := heap_alloc_new w _
  have Q1 := fun W => noughts_any l W (by omega)
  rw [hn] at Q1
  have Q2 := fun W h => whole_any l W h (by omega)
  rw [hw] at Q2
  rw [hl] at z
  go_enter Tryd.func17, Tryd.ntmps17
  go_wp2_with fail
  generalize w.alloc (.cells #[.int .i64 0, .int .i64 0, .int .i64 0, .int .i64 0, .string ⟨#[]⟩, .slice none 0 0] 29) = W0 at *
  refine (Q1 _).mono ?_
  rintro e w1 ⟨rfl, rfl⟩
  go_wp2_with fail
  refine (Q2 _ (hT.bel bW)).mono ?_
  rintro e w2 ⟨rfl, b2⟩
  have r0 := r0.bel b2
  have bW := bW.tr b2
  clear b2
  obtain ⟨z0, z1, z2, z3, z4, z5⟩ := r0.cells
  have y0 := r0.froz 0
  have y1 := r0.froz 1
  have y2 := r0.froz 2
  have y3 := r0.froz 3
  have y4 := r0.froz 4
  have y5 := r0.froz 5
  have R0 := hid r0
  have BW := hid bW
  clear r0 bW
  go_wp2_with fail
  clear z0 z1 z2 z3 z4 z5 y0 y1 y2 y3 y4 y5
  have q := R0.out.six (.int .i64 0) (.int .i64 0) (.int .i64 0) (.int .i64 0) (.string ⟨#[]⟩) (.slice none 0 0)
  have b7 := BW.out.six (Nat.le_refl _) (.int .i64 0) (.int .i64 0) (.int .i64 0) (.int .i64 0) (.string ⟨#[]⟩) (.slice none 0 0)
  rw [six] at q b7
  generalize World.setCell _ ⟨w.heap.size, 5, none⟩ (.slice none 0 0) = W9 at *
  obtain ⟨z0, z1, z2, z3, z4, z5⟩ := q.cells
  refine bodyPost_ret (v := .tuple #[pv M.zeroP (.slice none 0 0), .int .i64 5]) (by simp [results, Tryd.results17, go_sem, pv, M.zeroP, z0, z1, z2, z3, z4, z5]; rfl) rfl ?_
  exact ⟨_, rfl, ⟨none, 0, rfl, .inl rfl⟩, b7⟩
set_option maxRecDepth 100000 in
set_option maxHeartbeats 2000000 in
theorem decode_form (l : List UInt8) (w : World) (hT : Tab w) (hl : l.length = 512) (hn : M.noughts l = false) (hw : M.whole l = true) (hok : (M.pageN (M.bodyL l)).2 = false) : Calls Tryd.prog 17 #[.string (M.bs l)] w fun e w' => ∃ v, e = .returned (.tuple #[pv M.zeroP v, .int .i64 2]) ∧ Vals w' v M.zeroP.es ∧ Bel w w' := by
  have z : (M.bs l).size = l.length := M.bs_size l
  have bW : Bel w (w.alloc (.cells #[.int .i64 0, .int .i64 0, .int .i64 0, .int .i64 0, .string ⟨#[]⟩, .slice none 0 0] 29)) := Bel.al (Below.refl _ _) _
  have r0 : B6 (w.alloc (.cells #[.int .i64 0, .int .i64 0, .int .i64 0, .int .i64 0, .string ⟨#[]⟩, .slice none 0 0] 29)) w.heap.size (.int .i64 0) (.int .i64 0) (.int .i64 0) (.int .i64 0) (.string ⟨#[]⟩) (.slice none 0 0) := heap_alloc_new w _
  have Q1 := fun W => noughts_any l W (by omega)
  rw [hn] at Q1
  have Q2 := fun W h => whole_any l W h (by omega)
  rw [hw] at Q2
  rw [hl] at z
  have Q3 := fun W => body_any l W
  have hb : (M.bodyL l).length ≤ 600 := by unfold M.bodyL; rw [if_pos hl, List.length_take]; omega
  have Q4 := fun W => pageOf_any (M.bodyL l) W hb
  rw [hok] at Q4
  obtain ⟨p, hp⟩ : ∃ p, (M.pageN (M.bodyL l)).1 = p := ⟨_, rfl⟩
  rw [hp] at Q4
  clear hok hb hn hw hp
  obtain ⟨p0, p1, p2, p3, p4, p5⟩ := p
  simp only [pv] at Q4
  generalize M.bodyL l = bd at *
  go_enter Tryd.func17, Tryd.ntmps17
  go_wp2_with fail
  generalize w.alloc (.cells #[.int .i64 0, .int .i64 0, .int .i64 0, .int .i64 0, .string ⟨#[]⟩, .slice none 0 0] 29) = W0 at *
  refine (Q1 _).mono ?_
  rintro e w1 ⟨rfl, rfl⟩
  go_wp2_with fail
  refine (Q2 _ (hT.bel bW)).mono ?_
  rintro e w2 ⟨rfl, b2⟩
  go_wp2_with fail
  refine (Q3 _).mono ?_
  rintro e w3 ⟨rfl, rfl⟩
  go_wp2_with fail
  refine (Q4 _).mono ?_
  rintro e w4 ⟨v, rfl, o4, b4⟩
  obtain ⟨ao, cp, hvf, _⟩ := id o4.vals
  subst hvf
  have hA : Bel w4 (w4.alloc (.cells #[.int .i64 p0, .int .i64 p1, .int .i64 p2, .int .i64 p3, .string (M.bs p4), .slice ao p5.length cp] 29)) := Bel.al (Below.refl _ _) _
  have r0 := ((r0.bel b2).bel b4).bel hA
  have bW := ((bW.tr b2).tr b4).tr hA
  clear b2 b4 hA o4
  obtain ⟨z0, z1, z2, z3, z4, z5⟩ := r0.cells
  have y0 := r0.froz 0
  have y1 := r0.froz 1
  have y2 := r0.froz 2
  have y3 := r0.froz 3
  have y4 := r0.froz 4
  have y5 := r0.froz 5
  have R0 := hid r0
  have BW := hid bW
  clear r0 bW
  go_wp2_with fail
  clear z0 z1 z2 z3 z4 z5 y0 y1 y2 y3 y4 y5
  have q := R0.out.six (.int .i64 0) (.int .i64 0) (.int .i64 0) (.int .i64 0) (.string ⟨#[]⟩) (.slice none 0 0)
  have b7 := BW.out.six (Nat.le_refl _) (.int .i64 0) (.int .i64 0) (.int .i64 0) (.int .i64 0) (.string ⟨#[]⟩) (.slice none 0 0)
  rw [six] at q b7
  generalize World.setCell _ ⟨w.heap.size, 5, none⟩ (.slice none 0 0) = W9 at *
  obtain ⟨z0, z1, z2, z3, z4, z5⟩ := q.cells
  refine bodyPost_ret (v := .tuple #[pv M.zeroP (.slice none 0 0), .int .i64 2]) (by simp [results, Tryd.results17, go_sem, pv, M.zeroP, z0, z1, z2, z3, z4, z5]; rfl) rfl ?_
  exact ⟨_, rfl, ⟨none, 0, rfl, .inl rfl⟩, b7⟩
theorem decode_any (l : List UInt8) (w : World) (hT : Tab w) (hl : l.length ≤ 100000) :
    Calls Tryd.prog 17 #[.string (M.bs l)] w fun e w' => ∃ v, e = .returned (.tuple #[pv (M.decodeN l).1 v, .int .i64 ((M.decodeN l).2 : Int)]) ∧ Vals w' v (M.decodeN l).1.es ∧ Bel w w' := by
  unfold M.decodeN
  by_cases h1 : l.length < 512
  · rw [if_pos h1]; exact decode_short l w hT h1
  · rw [if_neg h1]
    by_cases h2 : 512 < l.length
    · rw [if_pos h2]; exact decode_long l w hT h2 hl
    · rw [if_neg h2]
      have h3 : l.length = 512 := by omega
      by_cases h4 : M.noughts l = true
      · rw [if_pos h4]; exact decode_zero l w hT h3 h4
      · rw [if_neg h4]
        have h4' : M.noughts l = false := by simpa using h4
        by_cases h5 : M.whole l = true
        · rw [if_pos h5]
          by_cases h6 : (M.pageN (M.bodyL l)).2 = true
          · rw [if_pos h6]; exact decode_good l w hT h3 h4' h5 h6
          · rw [if_neg h6]; exact decode_form l w hT h3 h4' h5 (by simpa using h6)
        · rw [if_neg h5]; exact decode_sum l w hT h3 h4' (by simpa using h5)
end Go.Proofs.YtaepbmcmggnmpaaDoor
