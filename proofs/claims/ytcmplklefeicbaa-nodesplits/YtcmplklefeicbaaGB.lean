/-
  The document's Remove and Mark, walked.
-/
import Derived.Test.YtcmplklefeicbaaGA
namespace Go.Proofs.Ytcmplklefeicbaa
open Go.RowKit
set_option maxRecDepth 100000

/-- The boxes of a call of the document's Remove. -/
structure RC (w W : World) (cs : Array Value) : Prop where
  b0 : Blk W w.heap.size cs 33
  b1 : Blk W (w.heap.size + 1) noC 33
  below : Bel w W
theorem RC.bel {w W W' : World} {cs : Array Value} (h : RC w W cs) (b : Bel W W') : RC w W' cs :=
  ⟨h.b0.below b h.b0.lt, h.b1.below b h.b1.lt, h.below.tr b⟩
theorem RC.start (w : World) (cs : Array Value) : RC w ((w.alloc (.cells cs 33)).alloc (.cells noC 33)) cs := by
  obtain ⟨h1, h2⟩ := heap_two w (.cells cs 33) (.cells noC 33)
  exact ⟨h1, h2, Bel.al (Bel.al (Below.refl _ _) _) _⟩
theorem RC.set {w W : World} {cs : Array Value} (h : RC w W cs) (v : Value) : RC w (W.setCell ⟨w.heap.size, 5, none⟩ v) (cs.setIfInBounds 5 v) := by
  have ks := (Keep.refl (fun j => j ≠ w.heap.size) W).set (p := ⟨w.heap.size, 5, none⟩) (by simp) v
  exact ⟨h.b0.set 5 v, (ks.block _ (by omega)).trans h.b1, Below.setCell h.below (by simp) v⟩
theorem RC.grown {w W W' : World} {cs : Array Value} (h : RC w W cs) {r : Option Nat} (g : W.grownBy W' r) (hr : ∀ j, r = some j → w.heap.size + 1 < j) : RC w W' cs :=
  ⟨(g.block _ h.b0.lt (fun e => by have := hr _ e.symm; omega)).trans h.b0, (g.block _ h.b1.lt (fun e => by have := hr _ e.symm; omega)).trans h.b1, Below.grown h.below g h.below.size (fun j hj => by have := hr j hj; omega)⟩
set_option maxHeartbeats 4000000 in
theorem rremove_none (p : M.Pg) (x : Value) (k : List UInt8) (w : World) (hs : Sm p) (hv : Vals w x p.es) (hu : M.Up M.cfS p.es) (hh : M.has M.cfS p.es k = false) :
    Calls Try.prog 17 #[pv p x, .string (M.bs k)] w fun e w' => e = .returned (.tuple #[.agg noC, .int .i64 11]) ∧ Bel w w' := by
  obtain ⟨a, cap, rfl, hv'⟩ := id hv
  have hfind := fun W hW => place_any p (.slice a p.es.length cap) k W hs (hv.bel hW) hu
  rw [hh] at hfind
  have HF := hid hfind
  have I0 := hid (RC.start w #[.int .i64 p.lsn, .int .i64 p.kind, .int .i64 p.level, .int .i64 p.right, .string (M.bs p.high), .slice a p.es.length cap])
  clear hfind hv hv'
  go_enter Try.func17, Try.ntmps17
  go_wp2_with (go_at_call 27; refine (HF.out _ I0.out.below).mono ?_; rintro e w3 ⟨rfl, b3⟩; have I3 := hid (I0.out.bel b3); clear b3; obtain ⟨d0, d1, d2, d3, d4, d5⟩ := blk_cells I3.out.b1; have df0 := I3.out.b1.frozen 0; have df1 := I3.out.b1.frozen 1; have df2 := I3.out.b1.frozen 2; have df3 := I3.out.b1.frozen 3; have df4 := I3.out.b1.frozen 4; have df5 := I3.out.b1.frozen 5)
  refine bodyPost_ret (results_cell_row2 (p := 4) (ty := 33) (u := 5) rfl _ _ (w.heap.size + 1) _ rfl (load33 (cs := noC) (set6 I3.out.b1 _ _ _ _ _ _) rfl)) rfl ?_
  exact ⟨rfl, bel6 I3.out.below (by omega) _ _ _ _ _ _⟩
set_option maxHeartbeats 8000000 in
theorem rremove_some (p : M.Pg) (b off cap : Nat) (k : List UInt8) (w : World) (hs : Sm p) (h9 : p.es.length ≤ 900) (hcap : p.es.length ≤ cap) (hb : b < w.heap.size) (hr : Row3 w b off p.es) (hu : M.Up M.cfS p.es) (hh : M.has M.cfS p.es k = true) :
    Calls Try.prog 17 #[pv p (.slice (some ⟨b, off, none⟩) p.es.length cap), .string (M.bs k)] w fun e w' => ∃ x', e = .returned (.tuple #[pv { p with es := M.del M.cfS p.es k } x', .int .i64 0]) ∧ w'.ownsRow w.heap.size 43 3 x' (M.del M.cfS p.es k).length (csE (M.del M.cfS p.es k)) ∧ Bel w w' := by
  have hv : Vals w (.slice (some ⟨b, off, none⟩) p.es.length cap) p.es := ⟨_, cap, rfl, .inr ⟨b, off, rfl, hr⟩⟩
  have hvs : Vs w (.slice (some ⟨b, off, none⟩) p.es.length cap) p.es := .inr ⟨b, off, cap, rfl, hcap, hb, hr⟩
  have hfind := fun W hW => place_any p (.slice (some ⟨b, off, none⟩) p.es.length cap) k W hs (hv.bel hW) hu
  have hlt := M.pos_lt_of_has hh
  have hdel := M.del_old p.es k hh
  rw [hh] at hfind
  generalize M.pos M.cfS p.es k = i at *
  obtain ⟨a1, n1, c1, cut, VC⟩ := cutV hvs i (by omega)
  obtain ⟨a2, n2, c2, rst, VR⟩ := restV hvs (i + 1) (by omega)
  have HTL : Hid ((p.es.take i).length = i) := by show _ = _; rw [List.length_take]; omega
  have HDL : Hid ((p.es.drop (i + 1)).length = p.es.length - (i + 1)) := List.length_drop
  have HVC := hid VC
  have HVR := hid VR
  obtain ⟨D, hD⟩ : ∃ D, p.es.take i ++ p.es.drop (i + 1) = D := ⟨_, rfl⟩
  have HDD := hid hD
  have HDQ : Hid (D.length = i + (p.es.length - (i + 1))) := by show _ = _; rw [← hD, List.length_append, HTL.out, HDL.out]
  rw [hD] at hdel
  have HD := hid hdel
  have HF := hid hfind
  have I0 := hid (RC.start w #[.int .i64 p.lsn, .int .i64 p.kind, .int .i64 p.level, .int .i64 p.right, .string (M.bs p.high), .slice (some ⟨b, off, none⟩) p.es.length cap])
  clear hfind hv hvs hdel hD VC VR
  have hii : ¬ (i : Int) < 0 := by omega
  go_enter Try.func17, Try.ntmps17
  go_wp2_with (first
    | (go_at_call 27; refine (HF.out _ I0.out.below).mono ?_; rintro e w3 ⟨rfl, b3⟩; have I3 := hid (I0.out.bel b3); clear b3; obtain ⟨e0, e1, e2, e3, e4, e5⟩ := blk_cells I3.out.b0; have Z3 := hid I3.out.b1.lt; obtain ⟨a4, c4, w4, g1, g2, g3⟩ := app31 w3 w3.heap.size (.slice none 0 0) 0 [] (World.ownsRow_nil _ _ _ _) _ _ (HVC.out w3 I3.out.below) (by rw [HTL.out]; omega) (Nat.le_refl _); rw [HTL.out, Nat.zero_add, List.nil_append] at g2; rw [HTL.out, Nat.zero_add] at g1; have I4 := hid (I3.out.grown g3 (fun j hj => (by cases hj))); have O4 := hid g2; have G4 := hid g3.size; clear g2 g3 I3)
    | (at_builtin; refine appL rfl _ _ rfl rfl rfl g1 ?_; clear g1 e0 e1 e2 e3 e4 e5; obtain ⟨e0, e1, e2, e3, e4, e5⟩ := blk_cells I4.out.b0))
  refine wp_last fun KL hKL => ?_
  have HL := hid hKL
  clear hKL
  clear e0 e1 e2 e3 e4 e5
  refine region_until (S := fun W : World => Blk W w.heap.size #[.int .i64 p.lsn, .int .i64 p.kind, .int .i64 p.level, .int .i64 p.right, .string (M.bs p.high), .slice (some ⟨b, off, none⟩) p.es.length cap] 33) (m := 8) (by kernel_rfl) ?_
  have kD : Bel w4 w4.drew := Bel.dr (Below.refl _ _)
  have I5 := hid (I4.out.bel kD)
  have O5 := hid (bel43 O4.out kD)
  have G5 := hid (Nat.le_trans G4.out kD.size)
  clear I4 O4 kD
  generalize w4.drew = w5 at *
  have hS := I5.out.b0
  have q1 : ((i : Int) + 1) = ((i + 1 : Nat) : Int) := by omega
  obtain ⟨a7, c7, w7, j1, j2, j3⟩ := app31 w5 w3.heap.size _ _ _ O5.out _ _ (HVR.out w5 I5.out.below) (by rw [HDL.out]; omega) G5.out
  have hql : i + (p.es.drop (i + 1)).length = D.length := by rw [HDL.out]; have := HDQ.out; omega
  rw [← csE_append, HDD.out, hql] at j2
  rw [hql] at j1
  have I7 := hid (I5.out.grown j3 (fun j hj => by have := (O5.out.lt j hj).1; have := Z3.out; omega))
  have O7 := hid j2
  clear q1 j2 j3 hql
  rw [show ((i + 1 : Nat) : Int) = (i : Int) + 1 by omega] at rst
  refine take_next (i := 0) (.agg #[.int .i64 p.lsn, .int .i64 p.kind, .int .i64 p.level, .int .i64 p.right, .string (M.bs p.high), .slice (some ⟨b, off, none⟩) p.es.length cap]) [8] (by kernel_rfl) (by kernel_rfl) rfl (by kernel_rfl) (by kernel_rfl) (by kernel_rfl) (by kernel_rfl) (fun _ _ _ h => absurd h.1 (by simp)) (Or.inl ⟨by rfl, fun w' hSw => by obtain ⟨s0, s1, s2, s3, s4, s5⟩ := blk_cells hSw; go_simp⟩) hS ?_
  try simp only [Act.put]
  refine take_next (i := 1) (.slice a4 i c4) [7, 8] (by kernel_rfl) (by kernel_rfl) rfl (by kernel_rfl) (by kernel_rfl) (by kernel_rfl) (by kernel_rfl) (fun _ _ _ h => absurd h.1 (by simp)) (Or.inl ⟨by rfl, fun w' hSw => by go_simp⟩) hS ?_
  try simp only [Act.put]
  refine take_next (i := 2) (.pointer (some ⟨w.heap.size, 5, none⟩)) [3, 6, 7, 8] (by kernel_rfl) (by kernel_rfl) rfl (by kernel_rfl) (by kernel_rfl) (by kernel_rfl) (by kernel_rfl) (fun _ _ _ h => absurd h.1 (by simp)) (Or.inl ⟨by rfl, fun w' hSw => by go_simp⟩) hS ?_
  try simp only [Act.put]
  refine take_next (i := 3) (.slice (some ⟨b, off, none⟩) p.es.length cap) [6, 7, 8] (by kernel_rfl) (by kernel_rfl) rfl (by kernel_rfl) (by kernel_rfl) (by kernel_rfl) (by kernel_rfl) (fun _ _ _ h => absurd h.1 (by simp)) (Or.inl ⟨by rfl, fun w' hSw => by obtain ⟨s0, s1, s2, s3, s4, s5⟩ := blk_cells hSw; go_simp⟩) hS ?_
  try simp only [Act.put]
  refine take_next (i := 4) (.int .i64 (i : Nat)) [5, 6, 7, 8] (by kernel_rfl) (by kernel_rfl) rfl (by kernel_rfl) (by kernel_rfl) (by kernel_rfl) (by kernel_rfl) (fun _ _ _ h => absurd h.1 (by simp)) (Or.inl ⟨by rfl, fun w' hSw => by go_simp⟩) hS ?_
  try simp only [Act.put]
  refine take_next (i := 5) (.int .i64 ((i : Int) + 1)) [6, 7, 8] (by kernel_rfl) (by kernel_rfl) rfl (by kernel_rfl) (by kernel_rfl) (by kernel_rfl) (by kernel_rfl) (fun _ _ _ h => absurd h.1 (by simp)) (Or.inl ⟨by rfl, fun w' hSw => by go_simp; rw [IntKind.wrap_i64]; omega⟩) hS ?_
  try simp only [Act.put]
  refine take_next (i := 6) (.slice a2 n2 c2) [7, 8] (by kernel_rfl) (by kernel_rfl) rfl (by kernel_rfl) (by kernel_rfl) (by kernel_rfl) (by kernel_rfl) (fun _ _ _ h => absurd h.1 (by simp)) (Or.inl ⟨by rfl, fun w' hSw => by go_simp⟩) hS ?_
  try simp only [Act.put]
  refine until_step (j := 7) (by kernel_rfl) rfl (by kernel_rfl) (fun KX hKX => ?_)
  have HX := hid hKX
  clear hKX
  refine Lib.wp_append_run _ _ _ 31 31 (by rfl) _ _ (by rfl) (by rfl) _ _ (by exact j1) ?_
  refine HX.out _ _ ⟨fun _ => I7.out.b0, ?_⟩
  clear HX j1 I5 O5
  try simp only [Act.put]
  refine until_step (j := 8) (by kernel_rfl) rfl (by kernel_rfl) (fun KX hKX => ?_)
  have HX := hid hKX
  clear hKX
  go_simp
  refine (with_any p (some ⟨b, off, none⟩) p.es.length cap a7 D.length c7 w7).mono ?_
  rintro e w8 ⟨rfl, b8⟩
  have I8 := hid (I7.out.bel b8)
  have O8 := hid (bel43 O7.out b8)
  refine HX.out _ _ ⟨(fun h => by cases (Eq.trans (Eq.symm (show _ = true by kernel_rfl)) h)), ?_⟩
  clear HX I7 O7 b8
  try simp only [Act.put]
  obtain ⟨d0, d1, d2, d3, d4, d5⟩ := blk_cells I8.out.b1
  have df0 := I8.out.b1.frozen 0
  have df1 := I8.out.b1.frozen 1
  have df2 := I8.out.b1.frozen 2
  have df3 := I8.out.b1.frozen 3
  have df4 := I8.out.b1.frozen 4
  have df5 := I8.out.b1.frozen 5
  refine until_step (j := 9) (by kernel_rfl) rfl (by kernel_rfl) (fun KX hKX => ?_)
  have HX := hid hKX
  clear hKX
  go_simp
  refine HX.out _ _ ⟨(fun h => by cases (Eq.trans (Eq.symm (show _ = true by kernel_rfl)) h)), ?_⟩
  clear HX
  try simp only [Act.put]
  refine until_step (j := 10) (by kernel_rfl) rfl (by kernel_rfl) (fun KX hKX => ?_)
  have HX := hid hKX
  clear hKX
  go_simp
  refine HX.out _ _ ⟨(fun h => by cases (Eq.trans (Eq.symm (show _ = true by kernel_rfl)) h)), ?_⟩
  clear HX
  refine until_done (by kernel_rfl) ⟨rfl, ?_⟩ _
  refine HL.out _ _ ?_
  clear HL
  go_wp2_with fail
  refine bodyPost_ret (results_cell_row2 (p := 4) (ty := 33) (u := 5) rfl _ _ (w.heap.size + 1) _ rfl (load33 (cs := #[.int .i64 p.lsn, .int .i64 p.kind, .int .i64 p.level, .int .i64 p.right, .string (M.bs p.high), .slice a7 D.length c7]) (set6 I8.out.b1 _ _ _ _ _ _) rfl)) rfl ?_
  refine ⟨_, by rw [HD.out]; rfl, ?_, bel6 I8.out.below (by omega) _ _ _ _ _ _⟩
  rw [HD.out]
  exact base43 (base' := w.heap.size) (ownc43 O8.out (row_ne O8.out I8.out.b1 (by decide)) _ _ _ _ _ _) (by have := Z3.out; omega)
set_option maxHeartbeats 4000000 in
theorem rmark_none (p : M.Pg) (x : Value) (k : List UInt8) (m : Bool) (w : World) (hs : Sm p) (hv : Vals w x p.es) (hu : M.Up M.cfS p.es) (hh : M.has M.cfS p.es k = false) :
    Calls Try.prog 15 #[pv p x, .string (M.bs k), .bool m] w fun e w' => e = .returned (.tuple #[.agg noC, .int .i64 11]) ∧ Bel w w' := by
  obtain ⟨a, cap, rfl, hv'⟩ := id hv
  have hfind := fun W hW => place_any p (.slice a p.es.length cap) k W hs (hv.bel hW) hu
  rw [hh] at hfind
  have HF := hid hfind
  have I0 := hid (RC.start w #[.int .i64 p.lsn, .int .i64 p.kind, .int .i64 p.level, .int .i64 p.right, .string (M.bs p.high), .slice a p.es.length cap])
  clear hfind hv hv'
  go_enter Try.func15, Try.ntmps15
  go_wp2_with (go_at_call 27; refine (HF.out _ I0.out.below).mono ?_; rintro e w3 ⟨rfl, b3⟩; have I3 := hid (I0.out.bel b3); clear b3; obtain ⟨d0, d1, d2, d3, d4, d5⟩ := blk_cells I3.out.b1; have df0 := I3.out.b1.frozen 0; have df1 := I3.out.b1.frozen 1; have df2 := I3.out.b1.frozen 2; have df3 := I3.out.b1.frozen 3; have df4 := I3.out.b1.frozen 4; have df5 := I3.out.b1.frozen 5)
  refine bodyPost_ret (results_cell_row2 (p := 6) (ty := 33) (u := 7) rfl _ _ (w.heap.size + 1) _ rfl (load33 (cs := noC) (set6 I3.out.b1 _ _ _ _ _ _) rfl)) rfl ?_
  exact ⟨rfl, bel6 I3.out.below (by omega) _ _ _ _ _ _⟩
set_option maxHeartbeats 4000000 in
theorem rmark_same (p : M.Pg) (b off cap : Nat) (k : List UInt8) (w : World) (hs : Sm p) (hb : b < w.heap.size) (hr : Row3 w b off p.es) (hu : M.Up M.cfS p.es) (hh : M.has M.cfS p.es k = true) (i : Nat) (hi : i = M.pos M.cfS p.es k) (hlt : i < p.es.length) (mk : Bool) (hmk : mk = (p.es[i]'hlt).2.2) :
    Calls Try.prog 15 #[pv p (.slice (some ⟨b, off, none⟩) p.es.length cap), .string (M.bs k), .bool mk] w fun e w' => e = .returned (.tuple #[.agg noC, .int .i64 17]) ∧ Bel w w' := by
  have hv : Vals w (.slice (some ⟨b, off, none⟩) p.es.length cap) p.es := ⟨_, cap, rfl, .inr ⟨b, off, rfl, hr⟩⟩
  have hfind := fun W hW => place_any p (.slice (some ⟨b, off, none⟩) p.es.length cap) k W hs (hv.bel hW) hu
  rw [hh, ← hi] at hfind
  have HROW : Hid (∀ W, Bel w W → Row3 W b off p.es) := fun W hW => hr.below hW hb
  have HF := hid hfind
  have I0 := hid (RC.start w #[.int .i64 p.lsn, .int .i64 p.kind, .int .i64 p.level, .int .i64 p.right, .string (M.bs p.high), .slice (some ⟨b, off, none⟩) p.es.length cap])
  have hii : (i : Int) < (p.es.length : Int) := by omega
  have HC : Hid (∀ W, Bel w W → W.cell? ⟨b, off + i * 3 + 2, none⟩ = some (.bool mk)) := fun W hW => by rw [hmk]; exact (HROW.out W hW i hlt).2.2
  clear hmk HROW hv hr hfind hi
  cases mk with
  | true =>
    go_enter Try.func15, Try.ntmps15
    go_wp2_with (go_at_call 27; refine (HF.out _ I0.out.below).mono ?_; rintro e w3 ⟨rfl, b3⟩; have I3 := hid (I0.out.bel b3); clear b3; obtain ⟨e0, e1, e2, e3, e4, e5⟩ := blk_cells I3.out.b0; have ec := HC.out w3 I3.out.below; obtain ⟨d0, d1, d2, d3, d4, d5⟩ := blk_cells I3.out.b1; have df0 := I3.out.b1.frozen 0; have df1 := I3.out.b1.frozen 1; have df2 := I3.out.b1.frozen 2; have df3 := I3.out.b1.frozen 3; have df4 := I3.out.b1.frozen 4; have df5 := I3.out.b1.frozen 5)
    refine bodyPost_ret (results_cell_row2 (p := 6) (ty := 33) (u := 7) rfl _ _ (w.heap.size + 1) _ rfl (load33 (cs := noC) (set6 I3.out.b1 _ _ _ _ _ _) rfl)) rfl ?_
    exact ⟨rfl, bel6 I3.out.below (by omega) _ _ _ _ _ _⟩
  | false =>
    go_enter Try.func15, Try.ntmps15
    go_wp2_with (go_at_call 27; refine (HF.out _ I0.out.below).mono ?_; rintro e w3 ⟨rfl, b3⟩; have I3 := hid (I0.out.bel b3); clear b3; obtain ⟨e0, e1, e2, e3, e4, e5⟩ := blk_cells I3.out.b0; have ec := HC.out w3 I3.out.below; obtain ⟨d0, d1, d2, d3, d4, d5⟩ := blk_cells I3.out.b1; have df0 := I3.out.b1.frozen 0; have df1 := I3.out.b1.frozen 1; have df2 := I3.out.b1.frozen 2; have df3 := I3.out.b1.frozen 3; have df4 := I3.out.b1.frozen 4; have df5 := I3.out.b1.frozen 5)
    refine bodyPost_ret (results_cell_row2 (p := 6) (ty := 33) (u := 7) rfl _ _ (w.heap.size + 1) _ rfl (load33 (cs := noC) (set6 I3.out.b1 _ _ _ _ _ _) rfl)) rfl ?_
    exact ⟨rfl, bel6 I3.out.below (by omega) _ _ _ _ _ _⟩
/-- The copy of the entries, and the mark in it. -/
theorem rmark_world (p : M.Pg) (cs : Array Value) (w w3 : World) (I3 : RC w w3 cs) (ZB : w.heap.size + 1 < w3.heap.size) (i : Nat) (hlt : i < p.es.length) (m : Bool) {y : Value} (hv : Vs w3 y p.es) (hes : p.es.length ≤ 1000) :
    ∃ (g4 c4 : Nat) (w4 w6 : World), (Builtin.append_ #[31, 31] 31 #[.slice (some ⟨w3.heap.size, 0, none⟩) 0 0, y]).run Try.prog (w3.alloc (.cells #[] 43)) = .ok (.slice (some ⟨g4, 0, none⟩) p.es.length c4) w4 ∧ Hid (RC w w4 cs) ∧ Hid (Blk w6 w.heap.size cs 33) ∧ Hid (Blk w6 (w.heap.size + 1) noC 33) ∧ Hid (Bel w w6) ∧
      Hid (w6.ownsRow w3.heap.size 43 3 (.slice (some ⟨g4, 0, none⟩) p.es.length c4) p.es.length (csE (M.mark p.es i m))) ∧ Hid (w4.cell? ⟨g4, i * 3 + 2, none⟩ = some (.bool (p.es[i]'hlt).2.2)) ∧ Hid (w4.frozen? ⟨g4, i * 3 + 2, none⟩ = false) ∧ Hid (w4.setCell ⟨g4, i * 3 + 2, none⟩ (.bool m) = w6) := by
  have kA : Bel w3 (w3.alloc (.cells #[] 43)) := Bel.al (Below.refl _ _) _
  have hown : (w3.alloc (.cells #[] 43)).ownsRow w3.heap.size 43 3 (.slice (some ⟨w3.heap.size, 0, none⟩) 0 0) 0 [] := World.ownsRow_made w3 #[] 0 (Nat.le_refl _) (Nat.zero_le _) (by simp)
  obtain ⟨a4, c4, w4, g1, g2, g3⟩ := app31 (w3.alloc (.cells #[] 43)) w3.heap.size _ _ _ hown y p.es (hv.bel kA) (by omega) kA.size
  rw [Nat.zero_add, List.nil_append] at g2
  rw [Nat.zero_add] at g1
  obtain ⟨g4, rfl⟩ : ∃ g, a4 = some ⟨g, 0, none⟩ := by
    rcases g2.2 with ⟨_, h0⟩ | ⟨g, c, cur, h, _⟩
    · omega
    · injection h with h1 h2 h3
      exact ⟨g, h1⟩
  have I4 : RC w w4 cs := (I3.bel kA).grown g3 (fun j hj => by have := (hown.lt j hj).1; omega)
  have hg4 := (g2.lt g4 rfl).1
  have hcell := g2.cellAt (i * 3 + 2) (by omega)
  rw [(csE_at p.es i hlt).2.2] at hcell
  refine ⟨g4, c4, w4, _, g1, hid I4, hid (blk_other I4.b0 (by omega) (i * 3 + 2) (.bool m)), hid (blk_other I4.b1 (by omega) _ _), hid (Below.setCell I4.below (show w.heap.size ≤ g4 by omega) _), hid ?_, hid hcell, hid (row_frozen g2 _), hid rfl⟩
  rw [csE_mark]
  exact ownsRow_set g2 _ _
end Go.Proofs.Ytcmplklefeicbaa
