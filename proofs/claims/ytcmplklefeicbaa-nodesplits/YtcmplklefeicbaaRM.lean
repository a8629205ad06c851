/-
  The contract of node's Remove, walked.
-/
import Derived.Test.YtcmplklefeicbaaGR
import Derived.Test.YtcmplklefeicbaaT
namespace Go.Proofs.Ytcmplklefeicbaa.M
def remE (p : Pg) (k : List UInt8) : Int := if has cfS p.es k = true then 0 else 11
def remP (p : Pg) (k : List UInt8) : Pg := if has cfS p.es k = true then { p with es := del cfS p.es k } else noPg
end Go.Proofs.Ytcmplklefeicbaa.M
namespace Go.Proofs.Ytcmplklefeicbaa
open Go.RowKit
set_option maxRecDepth 100000

/-- The boxes of a call of Remove. -/
structure RB (w W : World) (cs : Array Value) : Prop where
  b0 : Blk W w.heap.size cs 30
  b1 : Blk W (w.heap.size + 1) noC 30
  below : Bel w W
theorem RB.bel {w W W' : World} {cs : Array Value} (h : RB w W cs) (b : Bel W W') : RB w W' cs :=
  ⟨h.b0.below b h.b0.lt, h.b1.below b h.b1.lt, h.below.tr b⟩
theorem RB.start (w : World) (cs : Array Value) : RB w ((w.alloc (.cells cs 30)).alloc (.cells noC 30)) cs := by
  obtain ⟨h1, h2⟩ := heap_two w (.cells cs 30) (.cells noC 30)
  exact ⟨h1, h2, Bel.al (Bel.al (Below.refl _ _) _) _⟩
theorem RB.set {w W : World} {cs : Array Value} (h : RB w W cs) (v : Value) : RB w (W.setCell ⟨w.heap.size, 5, none⟩ v) (cs.setIfInBounds 5 v) := by
  have ks := (Keep.refl (fun j => j ≠ w.heap.size) W).set (p := ⟨w.heap.size, 5, none⟩) (by simp) v
  exact ⟨h.b0.set 5 v, (ks.block _ (by omega)).trans h.b1, Below.setCell h.below (by simp) v⟩
theorem drop_place (b off n cap i : Nat) (h : i ≤ n) (hc : n ≤ cap) (L : List M.En) (hl : L.length = n) (w : World) (hr : Row3 w b off L) : ∃ o, (if cap = i then some (⟨b, off, none⟩ : Addr) else some ⟨b, off + i * 3, none⟩) = some ⟨b, o, none⟩ ∧ Row3 w b o (L.drop i) := by
  by_cases e : cap = i
  · refine ⟨off, by rw [if_pos e], ?_⟩
    intro j hj
    rw [List.length_drop] at hj
    omega
  · exact ⟨off + i * 3, by rw [if_neg e], row3_drop hr i⟩
set_option maxHeartbeats 4000000 in
theorem remove_none (p : M.Pg) (x : Value) (k : List UInt8) (w : World) (hs : Sm p) (hv : Vals w x p.es) (hu : M.Up M.cfS p.es) (hh : M.has M.cfS p.es k = false) :
    Calls Try.prog 16 #[pv p x, .string (M.bs k)] w fun e w' => e = .returned (.tuple #[.agg noC, .int .i64 11]) ∧ Bel w w' := by
  obtain ⟨a, cap, rfl, hv'⟩ := id hv
  have hfind := fun W hW => find_any p (.slice a p.es.length cap) k W hs (hv.bel hW) hu
  rw [hh] at hfind
  have HF := hid hfind
  have I0 := hid (RB.start w #[.int .i64 p.lsn, .int .i64 p.kind, .int .i64 p.level, .int .i64 p.right, .string (M.bs p.high), .slice a p.es.length cap])
  clear hfind hv hv'
  go_enter Try.func16, Try.ntmps16
  go_wp2_with (go_at_call 24; refine (HF.out _ I0.out.below).mono ?_; rintro e w3 ⟨rfl, b3⟩; have I3 := hid (I0.out.bel b3); clear b3; obtain ⟨d0, d1, d2, d3, d4, d5⟩ := blk_cells I3.out.b1; have df0 := I3.out.b1.frozen 0; have df1 := I3.out.b1.frozen 1; have df2 := I3.out.b1.frozen 2; have df3 := I3.out.b1.frozen 3; have df4 := I3.out.b1.frozen 4; have df5 := I3.out.b1.frozen 5)
  refine bodyPost_ret (results_cell_row2 (p := 4) (ty := 30) (u := 5) rfl _ _ (w.heap.size + 1) _ rfl (load30 (cs := noC) (set6 I3.out.b1 _ _ _ _ _ _) rfl)) rfl ?_
  exact ⟨rfl, bel6 I3.out.below (by omega) _ _ _ _ _ _⟩
set_option maxHeartbeats 8000000 in
theorem remove_some (p : M.Pg) (b off cap : Nat) (k : List UInt8) (w : World) (hs : Sm p) (hcap : p.es.length ≤ cap) (hb : b < w.heap.size) (hr : Row3 w b off p.es) (hu : M.Up M.cfS p.es) (hh : M.has M.cfS p.es k = true) :
    Calls Try.prog 16 #[pv p (.slice (some ⟨b, off, none⟩) p.es.length cap), .string (M.bs k)] w fun e w' => ∃ x', e = .returned (.tuple #[pv { p with es := M.del M.cfS p.es k } x', .int .i64 0]) ∧ w'.ownsRow w.heap.size 40 3 x' (M.del M.cfS p.es k).length (csE (M.del M.cfS p.es k)) ∧ Bel w w' := by
  have hv : Vals w (.slice (some ⟨b, off, none⟩) p.es.length cap) p.es := ⟨_, cap, rfl, .inr ⟨b, off, rfl, hr⟩⟩
  have hfind := fun W hW => find_any p (.slice (some ⟨b, off, none⟩) p.es.length cap) k W hs (hv.bel hW) hu
  have hlt := M.pos_lt_of_has hh
  have hdel := M.del_old p.es k hh
  rw [hh] at hfind
  generalize M.pos M.cfS p.es k = i at *
  have HD := hid hdel
  have HF := hid hfind
  have I0 := hid (RB.start w #[.int .i64 p.lsn, .int .i64 p.kind, .int .i64 p.level, .int .i64 p.right, .string (M.bs p.high), .slice (some ⟨b, off, none⟩) p.es.length cap])
  clear hfind hv hdel
  have hii : ¬ (i : Int) < 0 := by omega
  have hes := hs.es
  go_enter Try.func16, Try.ntmps16
  go_wp2_with (go_at_call 24; refine (HF.out _ I0.out.below).mono ?_; rintro e w3 ⟨rfl, b3⟩; have I3 := hid (I0.out.bel b3); clear b3; obtain ⟨d0, d1, d2, d3, d4, d5⟩ := blk_cells I3.out.b0)
  refine wp_last fun KL hKL => ?_
  have HL := hid hKL
  clear hKL
  clear d0 d1 d2 d3 d4 d5
  refine region_until (S := fun W : World => Blk W w.heap.size #[.int .i64 p.lsn, .int .i64 p.kind, .int .i64 p.level, .int .i64 p.right, .string (M.bs p.high), .slice (some ⟨b, off, none⟩) p.es.length cap] 30) (m := 12) (by kernel_rfl) ?_
  have I5 := hid (I3.out.bel (Bel.dr (Below.refl _ _)))
  clear I3 I0 HF
  generalize w3.drew = w5 at *
  have hS := I5.out.b0
  have cut := fun W => run_head b off p.es.length cap i (by omega) hcap (by omega) W
  have rst := fun W => run_rest b off p.es.length cap (i + 1) (by omega) hcap W
  have hr5 := hr.below I5.out.below hb
  obtain ⟨o2, ho2, hrd⟩ := drop_place b off p.es.length cap (i + 1) (by omega) hcap p.es rfl w5 hr5
  rw [ho2] at rst
  rw [show ((i + 1 : Nat) : Int) = (i : Int) + 1 by omega] at rst
  refine take_next (i := 0) (.pointer (some ⟨w.heap.size, 5, none⟩)) [1, 3, 9, 10, 12] (by kernel_rfl) (by kernel_rfl) rfl (by kernel_rfl) (by kernel_rfl) (by kernel_rfl) (by kernel_rfl) (fun _ _ _ h => absurd h.1 (by simp)) (Or.inl ⟨by rfl, fun w' hSw => by obtain ⟨s0, s1, s2, s3, s4, s5⟩ := blk_cells hSw; go_simp⟩) hS ?_
  try simp only [Act.put]
  refine take_next (i := 1) (.slice (some ⟨b, off, none⟩) p.es.length cap) [3, 9, 10, 12] (by kernel_rfl) (by kernel_rfl) rfl (by kernel_rfl) (by kernel_rfl) (by kernel_rfl) (by kernel_rfl) (fun _ _ _ h => absurd h.1 (by simp)) (Or.inl ⟨by rfl, fun w' hSw => by obtain ⟨s0, s1, s2, s3, s4, s5⟩ := blk_cells hSw; go_simp⟩) hS ?_
  try simp only [Act.put]
  refine take_next (i := 2) (.int .i64 (i : Nat)) [3, 9, 10, 12] (by kernel_rfl) (by kernel_rfl) rfl (by kernel_rfl) (by kernel_rfl) (by kernel_rfl) (by kernel_rfl) (fun _ _ _ h => absurd h.1 (by simp)) (Or.inl ⟨by rfl, fun w' hSw => by go_simp⟩) hS ?_
  try simp only [Act.put]
  refine take_next (i := 3) (.slice (some ⟨b, off, none⟩) i cap) [9, 10, 12] (by kernel_rfl) (by kernel_rfl) rfl (by kernel_rfl) (by kernel_rfl) (by kernel_rfl) (by kernel_rfl) (fun _ _ _ h => absurd h.1 (by simp)) (Or.inl ⟨by rfl, fun w' hSw => by go_simp⟩) hS ?_
  try simp only [Act.put]
  refine take_next (i := 4) (.pointer (some ⟨w.heap.size, 5, none⟩)) [5, 8, 9, 10, 12] (by kernel_rfl) (by kernel_rfl) rfl (by kernel_rfl) (by kernel_rfl) (by kernel_rfl) (by kernel_rfl) (fun _ _ _ h => absurd h.1 (by simp)) (Or.inl ⟨by rfl, fun w' hSw => by obtain ⟨s0, s1, s2, s3, s4, s5⟩ := blk_cells hSw; go_simp⟩) hS ?_
  try simp only [Act.put]
  refine take_next (i := 5) (.slice (some ⟨b, off, none⟩) p.es.length cap) [8, 9, 10, 12] (by kernel_rfl) (by kernel_rfl) rfl (by kernel_rfl) (by kernel_rfl) (by kernel_rfl) (by kernel_rfl) (fun _ _ _ h => absurd h.1 (by simp)) (Or.inl ⟨by rfl, fun w' hSw => by obtain ⟨s0, s1, s2, s3, s4, s5⟩ := blk_cells hSw; go_simp⟩) hS ?_
  try simp only [Act.put]
  refine take_next (i := 6) (.int .i64 (i : Nat)) [7, 8, 9, 10, 12] (by kernel_rfl) (by kernel_rfl) rfl (by kernel_rfl) (by kernel_rfl) (by kernel_rfl) (by kernel_rfl) (fun _ _ _ h => absurd h.1 (by simp)) (Or.inl ⟨by rfl, fun w' hSw => by go_simp⟩) hS ?_
  try simp only [Act.put]
  refine take_next (i := 7) (.int .i64 ((i : Int) + 1)) [8, 9, 10, 12] (by kernel_rfl) (by kernel_rfl) rfl (by kernel_rfl) (by kernel_rfl) (by kernel_rfl) (by kernel_rfl) (fun _ _ _ h => absurd h.1 (by simp)) (Or.inl ⟨by rfl, fun w' hSw => by go_simp; rw [IntKind.wrap_i64]; omega⟩) hS ?_
  try simp only [Act.put]
  refine take_next (i := 8) (.slice (some ⟨b, o2, none⟩) (p.es.length - (i + 1)) (cap - (i + 1))) [9, 10, 12] (by kernel_rfl) (by kernel_rfl) rfl (by kernel_rfl) (by kernel_rfl) (by kernel_rfl) (by kernel_rfl) (fun _ _ _ h => absurd h.1 (by simp)) (Or.inl ⟨by rfl, fun w' hSw => by go_simp⟩) hS ?_
  try simp only [Act.put]
  refine until_step (j := 9) (by kernel_rfl) rfl (by kernel_rfl) (fun KX hKX => ?_)
  have HX := hid hKX
  clear hKX
  go_simp
  have kA : Bel w5 (w5.alloc (.cells #[.slice (some ⟨b, off, none⟩) i cap, .slice (some ⟨b, o2, none⟩) (p.es.length - (i + 1)) (cap - (i + 1))] 28)) := Bel.al (Below.refl _ _) _
  have I6 := hid (I5.out.bel kA)
  refine HX.out _ _ ⟨fun _ => I6.out.b0, ?_⟩
  clear HX
  try simp only [Act.put]
  have hw5 : w.heap.size ≤ w5.heap.size := I5.out.below.size
  have hb5 : b < w5.heap.size := Nat.lt_of_lt_of_le hb hw5
  have hn := Blk.new w5 #[.slice (some ⟨b, off, none⟩) i cap, .slice (some ⟨b, o2, none⟩) (p.es.length - (i + 1)) (cap - (i + 1))] 28
  have HC : Hid (Calls Try.prog 31 #[.slice (some ⟨w5.heap.size, 0, none⟩) 2 2] (w5.alloc (.cells #[.slice (some ⟨b, off, none⟩) i cap, .slice (some ⟨b, o2, none⟩) (p.es.length - (i + 1)) (cap - (i + 1))] 28)) fun e w' => ∃ v, e = .returned v ∧ w'.ownsRow (w5.alloc (.cells #[.slice (some ⟨b, off, none⟩) i cap, .slice (some ⟨b, o2, none⟩) (p.es.length - (i + 1)) (cap - (i + 1))] 28)).heap.size 40 3 v (p.es.take i ++ p.es.drop (i + 1)).length (csE (p.es.take i ++ p.es.drop (i + 1))) ∧ Bel (w5.alloc (.cells #[.slice (some ⟨b, off, none⟩) i cap, .slice (some ⟨b, o2, none⟩) (p.es.length - (i + 1)) (cap - (i + 1))] 28)) w') := by
    have l1 : (p.es.take i).length = i := by rw [List.length_take]; omega
    have l2 : (p.es.drop (i + 1)).length = p.es.length - (i + 1) := by rw [List.length_drop]
    exact concat_two w5.heap.size b off cap b o2 (cap - (i + 1)) (p.es.take i) (p.es.drop (i + 1)) _ (by omega) (by omega) (by rw [hn.cell, l1]; rfl) (by rw [hn.cell, l2]; rfl) (by have := kA.size; omega) (by have := kA.size; omega) ((row3_take hr5 i).below kA hb5) (hrd.below kA hb5)
  have Z6 := hid (Nat.le_trans hw5 kA.size)
  clear I5 hn cut rst hr5 hrd kA
  generalize w5.alloc (.cells #[.slice (some ⟨b, off, none⟩) i cap, .slice (some ⟨b, o2, none⟩) (p.es.length - (i + 1)) (cap - (i + 1))] 28) = w6 at *
  generalize p.es.take i ++ p.es.drop (i + 1) = D at *
  refine until_step (j := 10) (by kernel_rfl) rfl (by kernel_rfl) (fun KX hKX => ?_)
  have HX := hid hKX
  clear hKX
  go_simp
  refine HC.out.mono ?_
  rintro e w7 ⟨v, rfl, o7, k7⟩
  have I7 := hid (I6.out.bel k7)
  have O7 := hid o7
  obtain ⟨a7, c7, rfl⟩ := row_form o7
  refine HX.out _ _ ⟨fun _ => I7.out.b0, ?_⟩
  clear HX k7 o7 I6 HC
  try simp only [Act.put]
  refine until_step (j := 11) (by kernel_rfl) rfl (by kernel_rfl) (fun KX hKX => ?_)
  have HX := hid hKX
  clear hKX
  go_simp
  refine HX.out _ _ ⟨fun _ => I7.out.b0, ?_⟩
  clear HX
  try simp only [Act.put]
  obtain ⟨s0, s1, s2, s3, s4, s5⟩ := blk_cells I7.out.b0
  have y5 := I7.out.b0.frozen 5
  refine until_step (j := 12) (by kernel_rfl) rfl (by kernel_rfl) (fun KX hKX => ?_)
  have HX := hid hKX
  clear hKX
  go_simp
  refine HX.out _ _ ⟨(fun h => by cases (Eq.trans (Eq.symm (show _ = true by kernel_rfl)) h)), ?_⟩
  clear HX
  refine until_done (by kernel_rfl) ⟨rfl, ?_⟩ _
  refine HL.out _ _ ?_
  clear HL
  have J := hid (I7.out.set (.slice a7 D.length c7))
  have OJ := hid (ownsRow_setCell_other (a := ⟨w.heap.size, 5, none⟩) O7.out (fun e => row_ne O7.out I7.out.b0 (by decide) e.symm) (.slice a7 D.length c7))
  clear s0 s1 s2 s3 s4 s5 y5 I7 O7
  generalize w7.setCell ⟨w.heap.size, 5, none⟩ (.slice a7 D.length c7) = w8 at *
  have J0 : Blk w8 w.heap.size #[.int .i64 p.lsn, .int .i64 p.kind, .int .i64 p.level, .int .i64 p.right, .string (M.bs p.high), .slice a7 D.length c7] 30 := by
    have z := J.out.b0
    simpa using z
  obtain ⟨e0, e1, e2, e3, e4, e5⟩ := blk_cells J0
  obtain ⟨d0, d1, d2, d3, d4, d5⟩ := blk_cells J.out.b1
  have df0 := J.out.b1.frozen 0
  have df1 := J.out.b1.frozen 1
  have df2 := J.out.b1.frozen 2
  have df3 := J.out.b1.frozen 3
  have df4 := J.out.b1.frozen 4
  have df5 := J.out.b1.frozen 5
  go_wp2_with fail
  refine bodyPost_ret (results_cell_row2 (p := 4) (ty := 30) (u := 5) rfl _ _ (w.heap.size + 1) _ rfl (load30 (cs := #[.int .i64 p.lsn, .int .i64 p.kind, .int .i64 p.level, .int .i64 p.right, .string (M.bs p.high), .slice a7 D.length c7]) (set6 J.out.b1 _ _ _ _ _ _) rfl)) rfl ?_
  refine ⟨_, by rw [HD.out]; rfl, ?_, bel6 J.out.below (by omega) _ _ _ _ _ _⟩
  rw [HD.out]
  exact own6 (own_base OJ.out Z6.out) (row_ne OJ.out J.out.b1 (by decide)) _ _ _ _ _ _ rfl rfl
end Go.Proofs.Ytcmplklefeicbaa
