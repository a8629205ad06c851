/-
  The contract of node's Split, where it goes, walked.
-/
import Derived.Test.YtcmplklefeicbaaS
namespace Go.Proofs.Ytcmplklefeicbaa
open Go.RowKit
set_option maxRecDepth 100000

/-- The boxes of a call of Split. -/
structure SB (w W : World) (cs : Array Value) : Prop where
  b0 : Blk W w.heap.size cs 30
  b1 : Blk W (w.heap.size + 1) noC 30
  b2 : Blk W (w.heap.size + 1 + 1) noC 30
  below : Bel w W
theorem SB.bel {w W W' : World} {cs : Array Value} (h : SB w W cs) (b : Bel W W') : SB w W' cs :=
  ⟨h.b0.below b h.b0.lt, h.b1.below b h.b1.lt, h.b2.below b h.b2.lt, h.below.tr b⟩
theorem SB.start (w : World) (cs : Array Value) : SB w (((w.alloc (.cells cs 30)).alloc (.cells noC 30)).alloc (.cells noC 30)) cs := by
  obtain ⟨h1, h2⟩ := heap_two w (.cells cs 30) (.cells noC 30)
  have e : w.heap.size + 1 + 1 = ((w.alloc (.cells cs 30)).alloc (.cells noC 30)).heap.size := by simp
  exact ⟨Blk.al (show Blk _ _ _ _ from h1) _, Blk.al (show Blk _ _ _ _ from h2) _, by rw [e]; exact Blk.new _ _ _, Bel.al (Bel.al (Bel.al (Below.refl _ _) _) _) _⟩
theorem own_bel {w w' : World} {base n : Nat} {v : Value} {xs : List Value} (h : w.ownsRow base 40 3 v n xs) (k : Bel w w') : w'.ownsRow base 40 3 v n xs :=
  World.ownsRow.kept (row := none) h ⟨k.os, k.tape, k.output, k.size, fun j hj _ => k.block j hj⟩ (by cases v.ownBlock with | none => exact .inl rfl | some k => exact .inr (by simp))
theorem blk_other {W : World} {B B' : Nat} {cs : Array Value} {t : TypeId} (h : Blk W B cs t) (hne : B ≠ B') (j : Nat) (v : Value) : Blk (W.setCell ⟨B', j, none⟩ v) B cs t :=
  (Below.heap_setCell _ _ _ _ (by simpa using hne)).trans h
theorem SB.other {w W : World} {cs : Array Value} (h : SB w W cs) {B : Nat} (hB : w.heap.size + 1 + 1 < B) (j : Nat) (v : Value) : SB w (W.setCell ⟨B, j, none⟩ v) cs :=
  ⟨blk_other h.b0 (by omega) _ _, blk_other h.b1 (by omega) _ _, blk_other h.b2 (by omega) _ _, Below.setCell h.below (show w.heap.size ≤ B by omega) v⟩
theorem other6 {W : World} {A B : Nat} {cs : Array Value} {t : TypeId} (h : Blk W A cs t) (hne : A ≠ B) (c0 c1 c2 c3 c4 c5 : Value) : Blk ((((((W.setCell ⟨B, 0, none⟩ c0).setCell ⟨B, 1, none⟩ c1).setCell ⟨B, 2, none⟩ c2).setCell ⟨B, 3, none⟩ c3).setCell ⟨B, 4, none⟩ c4).setCell ⟨B, 5, none⟩ c5) A cs t := (blk_other (blk_other (blk_other (blk_other (blk_other (blk_other h hne _ _) hne _ _) hne _ _) hne _ _) hne _ _) hne _ _)
theorem ownc6 {W : World} {base B n : Nat} {v : Value} {xs : List Value} (h : W.ownsRow base 40 3 v n xs) (hB : some B ≠ v.ownBlock) (c0 c1 c2 c3 c4 c5 : Value) : ((((((W.setCell ⟨B, 0, none⟩ c0).setCell ⟨B, 1, none⟩ c1).setCell ⟨B, 2, none⟩ c2).setCell ⟨B, 3, none⟩ c3).setCell ⟨B, 4, none⟩ c4).setCell ⟨B, 5, none⟩ c5).ownsRow base 40 3 v n xs := (ownsRow_setCell_other (ownsRow_setCell_other (ownsRow_setCell_other (ownsRow_setCell_other (ownsRow_setCell_other (ownsRow_setCell_other h (fun e => hB e.symm) _) (fun e => hB e.symm) _) (fun e => hB e.symm) _) (fun e => hB e.symm) _) (fun e => hB e.symm) _) (fun e => hB e.symm) _)
theorem results_cells3 {fn : Func} {p q u : Tmp} {ty : TypeId} (h : fn.results = #[.cell p ty, .cell q ty, .tmp u]) (tmps : Array Value) (w : World) (g1 : Nat) (cs1 : Array Value) (g2 : Nat) (cs2 : Array Value)
    (hp : tmps.getD p undef = .pointer (some ⟨g1, 0, none⟩)) (hq : tmps.getD q undef = .pointer (some ⟨g2, 0, none⟩)) (hl1 : (loadVar ty ⟨g1, 0, none⟩).run Try.prog w = .ok (.agg cs1) w) (hl2 : (loadVar ty ⟨g2, 0, none⟩).run Try.prog w = .ok (.agg cs2) w) :
    (results fn tmps).run Try.prog w = .ok (.tuple #[.agg cs1, .agg cs2, tmps.getD u undef]) w := by
  have hp' : tmps[p]?.getD undef = .pointer (some ⟨g1, 0, none⟩) := by simpa using hp
  have hq' : tmps[q]?.getD undef = .pointer (some ⟨g2, 0, none⟩) := by simpa using hq
  simp only [results, h]
  simp [Sem.run_bind, Result.andThen, hp', hq', asAddr, hl1, hl2]
theorem blk_cells {W : World} {B : Nat} {t : TypeId} {a0 a1 a2 a3 a4 a5 : Value} (h : Blk W B #[a0, a1, a2, a3, a4, a5] t) :
    W.cell? ⟨B, 0, none⟩ = some a0 ∧ W.cell? ⟨B, 1, none⟩ = some a1 ∧ W.cell? ⟨B, 2, none⟩ = some a2 ∧ W.cell? ⟨B, 3, none⟩ = some a3 ∧ W.cell? ⟨B, 4, none⟩ = some a4 ∧ W.cell? ⟨B, 5, none⟩ = some a5 :=
  ⟨by rw [h.cell]; rfl, by rw [h.cell]; rfl, by rw [h.cell]; rfl, by rw [h.cell]; rfl, by rw [h.cell]; rfl, by rw [h.cell]; rfl⟩
theorem run_head (b off n cap i : Nat) (h : i ≤ cap) (_hn : n ≤ cap) (_hc : 0 < cap) (W : World) : (Instr.slice 28 (.slice (some ⟨b, off, none⟩) n cap) none (some (.int .i64 i)) none).run Try.prog W = .ok (.slice (some ⟨b, off, none⟩) i cap) W := by
  obtain ⟨i0, hi, hz0, hz1, hz2⟩ := info_parts info40
  have hu := Try.underlying28
  have e : (⟨b, off, none⟩ : Addr).add 0 = ⟨b, off, none⟩ := add_lit b off 0
  simp [Instr.slice, run_underlying hu, Instr.sliceBounds, Instr.sliceBound, asIntOf, sizeOf, typeInfo, hi, Sem.run_bind, h, e]
theorem row3_take {w : World} {b off : Nat} {L : List M.En} (h : Row3 w b off L) (i : Nat) : Row3 w b off (L.take i) := fun j hj => by
  rw [List.length_take] at hj
  have := h j (by omega)
  simpa [List.getElem_take] using this
theorem row3_drop {w : World} {b off : Nat} {L : List M.En} (h : Row3 w b off L) (i : Nat) : Row3 w b (off + i * 3) (L.drop i) := fun j hj => by
  rw [List.length_drop] at hj
  have := h (i + j) (by omega)
  have e : off + i * 3 + j * 3 = off + (i + j) * 3 := by omega
  simp only [List.getElem_drop]
  rw [e]
  exact this
set_option maxHeartbeats 16000000 in
theorem split_yes (p : M.Pg) (b off cap : Nat) (r : Int) (w : World) (hs : Sm p) (hcap : p.es.length ≤ cap) (hb : b < w.heap.size) (hr : Row3 w b off p.es) (hL : 2 ≤ p.es.length) (h1 : 1 ≤ r) (h2 : r ≤ 65535) :
    Calls Try.prog 18 #[pv p (.slice (some ⟨b, off, none⟩) p.es.length cap), .int .i64 r] w fun e w' => ∃ i : Nat, i < p.es.length ∧ (∃ m : Nat, m ≤ p.es.length ∧ (∀ j, j < m → M.szs (p.es.take j) < M.szs (p.es.drop j)) ∧ M.szs (p.es.drop m) ≤ M.szs (p.es.take m) ∧ i = min m (p.es.length - 1)) ∧ ∃ x1 x2, e = .returned (.tuple #[pv { p with es := p.es.take i, high := (p.es[i]?.getD ([], [], false)).1, right := r } x1, pv { p with es := p.es.drop i } x2, .int .i64 0]) ∧ w'.ownsRow w.heap.size 40 3 x1 i (csE (p.es.take i)) ∧ w'.ownsRow w.heap.size 40 3 x2 (p.es.length - i) (csE (p.es.drop i)) ∧ Bel w w' := by
  have hl : ¬ (p.es.length : Int) < 2 := by omega
  have HH := fun W (hW : Bel w W) => half_any p.es b off cap W hs.es hs.each (hr.below hW hb) (Nat.lt_of_lt_of_le hb hW.size) (by omega)
  have I0 := hid (SB.start w #[.int .i64 p.lsn, .int .i64 p.kind, .int .i64 p.level, .int .i64 p.right, .string (M.bs p.high), .slice (some ⟨b, off, none⟩) p.es.length cap])
  go_enter Try.func18, Try.ntmps18
  go_wp2_with (first
    | (go_at_call 32; refine (linkable_yes r _ h1 h2).mono ?_; rintro e w3 ⟨rfl, rfl⟩))
  refine (HH _ I0.out.below).mono ?_
  rintro e w4 ⟨m, hm1, hm2, hm3, rfl, b4⟩
  have I4 := hid (I0.out.bel b4)
  clear b4 HH I0
  obtain ⟨i, hi⟩ : ∃ i : Nat, i = min m (p.es.length - 1) := ⟨_, rfl⟩
  have HM := hid (And.intro (show ∃ m : Nat, m ≤ p.es.length ∧ (∀ j, j < m → M.szs (p.es.take j) < M.szs (p.es.drop j)) ∧ M.szs (p.es.drop m) ≤ M.szs (p.es.take m) ∧ i = min m (p.es.length - 1) from ⟨m, hm1, hm2, hm3, hi⟩) trivial)
  rw [← hi]
  have hin : i < p.es.length := by omega
  have HG : Hid (p.es[i]?.getD ([], [], false) = p.es[i]'hin) := by show _ = _; simp [hin]
  have cut := fun W => run_head b off p.es.length cap i (by omega) hcap (by omega) W
  have rst := fun W => run_rest b off p.es.length cap i (by omega) hcap W
  rw [if_neg (by omega)] at rst
  have HC1 : Hid (∀ W, Bel w W → Calls Try.prog 30 #[.slice (some ⟨b, off, none⟩) i cap] W fun e w' => ∃ x', e = .returned x' ∧ w'.ownsRow W.heap.size 40 3 x' i (csE (p.es.take i)) ∧ Bel W w') := fun W hW => by
    have hlt : (p.es.take i).length = i := by rw [List.length_take]; omega
    have := clone_any (.slice (some ⟨b, off, none⟩) i cap) (p.es.take i) W (.inr ⟨b, off, cap, by rw [hlt], by omega, Nat.lt_of_lt_of_le hb hW.size, row3_take (hr.below hW hb) i⟩) (by have := hs.es; omega)
    rwa [hlt] at this
  have HC2 : Hid (∀ W, Bel w W → Calls Try.prog 30 #[.slice (some ⟨b, off + i * 3, none⟩) (p.es.length - i) (cap - i)] W fun e w' => ∃ x', e = .returned x' ∧ w'.ownsRow W.heap.size 40 3 x' (p.es.length - i) (csE (p.es.drop i)) ∧ Bel W w') := fun W hW => by
    have hlt : (p.es.drop i).length = p.es.length - i := by rw [List.length_drop]
    have := clone_any (.slice (some ⟨b, off + i * 3, none⟩) (p.es.length - i) (cap - i)) (p.es.drop i) W (.inr ⟨b, off + i * 3, cap - i, by rw [hlt], by omega, Nat.lt_of_lt_of_le hb hW.size, row3_drop (hr.below hW hb) i⟩) (by have := hs.es; omega)
    rwa [hlt] at this
  have HROW : Hid (∀ W, Bel w W → W.cell? ⟨b, off + i * 3, none⟩ = some (.string (M.bs (p.es[i]'hin).1)) ∧ True) := fun W hW => ⟨((hr.below hW hb) i hin).1, trivial⟩
  clear hi hm1 hm2 hm3
  go_wp2_with fail
  refine wp_last fun KL hKL => ?_
  have HL := hid hKL
  clear hKL
  refine region_until (S := fun W : World => Blk W w.heap.size #[.int .i64 p.lsn, .int .i64 p.kind, .int .i64 p.level, .int .i64 p.right, .string (M.bs p.high), .slice (some ⟨b, off, none⟩) p.es.length cap] 30) (m := 5) (by kernel_rfl) ?_
  have I5 := hid (I4.out.bel (Bel.dr (Below.refl _ _)))
  clear I4
  generalize w4.drew = w5 at *
  have hS := I5.out.b0
  refine take_next (i := 0) (.agg #[.int .i64 p.lsn, .int .i64 p.kind, .int .i64 p.level, .int .i64 p.right, .string (M.bs p.high), .slice (some ⟨b, off, none⟩) p.es.length cap]) [4, 5] (by kernel_rfl) (by kernel_rfl) rfl (by kernel_rfl) (by kernel_rfl) (by kernel_rfl) (by kernel_rfl) (fun _ _ _ h => absurd h.1 (by simp)) (Or.inl ⟨by rfl, fun w' hSw => by obtain ⟨s0, s1, s2, s3, s4, s5⟩ := blk_cells hSw; go_simp⟩) hS ?_
  try simp only [Act.put]
  refine take_next (i := 1) (.agg #[.int .i64 p.lsn, .int .i64 p.kind, .int .i64 p.level, .int .i64 p.right, .string (M.bs p.high), .slice (some ⟨b, off, none⟩) p.es.length cap]) [5] (by kernel_rfl) (by kernel_rfl) rfl (by kernel_rfl) (by kernel_rfl) (by kernel_rfl) (by kernel_rfl) (fun _ _ _ h => absurd h.1 (by simp)) (Or.inl ⟨by rfl, fun w' hSw => by obtain ⟨s0, s1, s2, s3, s4, s5⟩ := blk_cells hSw; go_simp⟩) hS ?_
  try simp only [Act.put]
  refine until_ready (rs := [2, 3]) (by kernel_rfl) (by simp) ?_
  intro jj hjj
  simp only [List.mem_cons, List.not_mem_nil, or_false] at hjj
  rcases hjj with rfl | rfl
  · skip
    refine wpOp_step rfl (fun KX hKX => ?_)
    have HX := hid hKX
    clear hKX
    go_simp
    refine HX.out _ _ ⟨fun _ => (I5.out.bel (Bel.al (Below.refl _ _) _)).b0, ?_⟩
    clear HX
    try simp only [Act.put]
    refine until_step (j := 3) (by kernel_rfl) rfl (by kernel_rfl) (fun KX hKX => ?_)
    have HX := hid hKX
    clear hKX
    go_simp
    refine HX.out _ _ ⟨fun _ => (I5.out.bel (Bel.al (Bel.al (Below.refl _ _) _) _)).b0, ?_⟩
    clear HX
    try simp only [Act.put]
    refine until_step (j := 4) (by kernel_rfl) rfl (by kernel_rfl) (fun KX hKX => ?_)
    have HX := hid hKX
    clear hKX
    go_simp
    refine HX.out _ _ ⟨fun _ => (I5.out.bel (Bel.al (Bel.al (Below.refl _ _) _) _)).b0, ?_⟩
    clear HX
    try simp only [Act.put]
    refine until_step (j := 5) (by kernel_rfl) rfl (by kernel_rfl) (fun KX hKX => ?_)
    have HX := hid hKX
    clear hKX
    go_simp
    refine HX.out _ _ ⟨(fun h => by cases (Eq.trans (Eq.symm (show _ = true by kernel_rfl)) h)), ?_⟩
    clear HX
    refine until_done (by kernel_rfl) ⟨rfl, ?_⟩ _
    refine HL.out _ _ ?_
    clear HL
    obtain ⟨D1, D2⟩ := heap_two w5 (.cells #[.int .i64 p.lsn, .int .i64 p.kind, .int .i64 p.level, .int .i64 p.right, .string (M.bs p.high), .slice (some ⟨b, off, none⟩) p.es.length cap] 30) (.cells #[.int .i64 p.lsn, .int .i64 p.kind, .int .i64 p.level, .int .i64 p.right, .string (M.bs p.high), .slice (some ⟨b, off, none⟩) p.es.length cap] 30)
    have I6 := hid (I5.out.bel (Bel.al (Bel.al (Below.refl _ _) (.cells #[.int .i64 p.lsn, .int .i64 p.kind, .int .i64 p.level, .int .i64 p.right, .string (M.bs p.high), .slice (some ⟨b, off, none⟩) p.es.length cap] 30)) (.cells #[.int .i64 p.lsn, .int .i64 p.kind, .int .i64 p.level, .int .i64 p.right, .string (M.bs p.high), .slice (some ⟨b, off, none⟩) p.es.length cap] 30)))
    have hg1 := I5.out.b2.lt
    clear I5 hS
    generalize hw6 : (w5.alloc (.cells #[.int .i64 p.lsn, .int .i64 p.kind, .int .i64 p.level, .int .i64 p.right, .string (M.bs p.high), .slice (some ⟨b, off, none⟩) p.es.length cap] 30)).alloc (.cells #[.int .i64 p.lsn, .int .i64 p.kind, .int .i64 p.level, .int .i64 p.right, .string (M.bs p.high), .slice (some ⟨b, off, none⟩) p.es.length cap] 30) = w6 at *
    clear hw6
    obtain ⟨ga, hga⟩ : ∃ ga, ga = w5.heap.size := ⟨_, rfl⟩
    obtain ⟨gb, hgb⟩ : ∃ gb, gb = w5.heap.size + 1 := ⟨_, rfl⟩
    rw [← hgb] at D2 ⊢
    rw [← hga] at D1 hg1 ⊢
    have hne : ga ≠ gb := by omega
    have hgb1 : w.heap.size + 1 + 1 < gb := by omega
    clear hga hgb
    have D8 : Hid (Blk w6 ga #[.int .i64 p.lsn, .int .i64 p.kind, .int .i64 p.level, .int .i64 p.right, .string (M.bs p.high), .slice (some ⟨b, off, none⟩) p.es.length cap] 30) := D1
    have D9 : Hid (Blk w6 gb #[.int .i64 p.lsn, .int .i64 p.kind, .int .i64 p.level, .int .i64 p.right, .string (M.bs p.high), .slice (some ⟨b, off, none⟩) p.es.length cap] 30) := D2
    have hn8 : w.heap.size + 1 + 1 < ga := by omega
    have hn9 : w.heap.size + 1 + 1 < gb := by omega
    have hne' : ga ≠ gb := by omega
    clear D1 D2 hne
    go_wp2_with fail
    refine wp_last fun KL hKL => ?_
    have HL := hid hKL
    clear hKL
    refine region_until (S := fun W : World => Blk W w.heap.size #[.int .i64 p.lsn, .int .i64 p.kind, .int .i64 p.level, .int .i64 p.right, .string (M.bs p.high), .slice (some ⟨b, off, none⟩) p.es.length cap] 30) (m := 13) (by kernel_rfl) ?_
    have I7 := hid (I6.out.bel (Bel.dr (Below.refl _ _)))
    have E8 : Hid (Blk w6.drew ga #[.int .i64 p.lsn, .int .i64 p.kind, .int .i64 p.level, .int .i64 p.right, .string (M.bs p.high), .slice (some ⟨b, off, none⟩) p.es.length cap] 30) := D8.out
    have E9 : Hid (Blk w6.drew gb #[.int .i64 p.lsn, .int .i64 p.kind, .int .i64 p.level, .int .i64 p.right, .string (M.bs p.high), .slice (some ⟨b, off, none⟩) p.es.length cap] 30) := D9.out
    clear I6 D8 D9
    generalize w6.drew = w7 at *
    have hS := I7.out.b0
    refine take_next (i := 0) (.pointer (some ⟨w.heap.size, 5, none⟩)) [10, 11, 12, 13] (by kernel_rfl) (by kernel_rfl) rfl (by kernel_rfl) (by kernel_rfl) (by kernel_rfl) (by kernel_rfl) (fun _ _ _ h => absurd h.1 (by simp)) (Or.inl ⟨by rfl, fun w' hSw => by obtain ⟨s0, s1, s2, s3, s4, s5⟩ := blk_cells hSw; go_simp⟩) hS ?_
    try simp only [Act.put]
    refine take_next (i := 1) (.slice (some ⟨b, off, none⟩) p.es.length cap) [3, 4, 9, 13] (by kernel_rfl) (by kernel_rfl) rfl (by kernel_rfl) (by kernel_rfl) (by kernel_rfl) (by kernel_rfl) (fun _ _ _ h => absurd h.1 (by simp)) (Or.inl ⟨by rfl, fun w' hSw => by obtain ⟨s0, s1, s2, s3, s4, s5⟩ := blk_cells hSw; go_simp⟩) hS ?_
    try simp only [Act.put]
    refine take_next (i := 2) (.int .i64 (i : Nat)) [3, 4, 9, 13] (by kernel_rfl) (by kernel_rfl) rfl (by kernel_rfl) (by kernel_rfl) (by kernel_rfl) (by kernel_rfl) (fun _ _ _ h => absurd h.1 (by simp)) (Or.inl ⟨by rfl, fun w' hSw => by go_simp⟩) hS ?_
    try simp only [Act.put]
    refine take_next (i := 3) (.slice (some ⟨b, off, none⟩) i cap) [4, 9, 13] (by kernel_rfl) (by kernel_rfl) rfl (by kernel_rfl) (by kernel_rfl) (by kernel_rfl) (by kernel_rfl) (fun _ _ _ h => absurd h.1 (by simp)) (Or.inl ⟨by rfl, fun w' hSw => by go_simp⟩) hS ?_
    try simp only [Act.put]
    refine take_next (i := 5) (.pointer (some ⟨w.heap.size, 5, none⟩)) [6, 8, 9, 13] (by kernel_rfl) (by kernel_rfl) rfl (by kernel_rfl) (by kernel_rfl) (by kernel_rfl) (by kernel_rfl) (fun _ _ _ h => absurd h.1 (by simp)) (Or.inl ⟨by rfl, fun w' hSw => by obtain ⟨s0, s1, s2, s3, s4, s5⟩ := blk_cells hSw; go_simp⟩) hS ?_
    try simp only [Act.put]
    refine take_next (i := 6) (.slice (some ⟨b, off, none⟩) p.es.length cap) [8, 9, 13] (by kernel_rfl) (by kernel_rfl) rfl (by kernel_rfl) (by kernel_rfl) (by kernel_rfl) (by kernel_rfl) (fun _ _ _ h => absurd h.1 (by simp)) (Or.inl ⟨by rfl, fun w' hSw => by obtain ⟨s0, s1, s2, s3, s4, s5⟩ := blk_cells hSw; go_simp⟩) hS ?_
    try simp only [Act.put]
    refine take_next (i := 7) (.int .i64 (i : Nat)) [8, 9, 13] (by kernel_rfl) (by kernel_rfl) rfl (by kernel_rfl) (by kernel_rfl) (by kernel_rfl) (by kernel_rfl) (fun _ _ _ h => absurd h.1 (by simp)) (Or.inl ⟨by rfl, fun w' hSw => by go_simp⟩) hS ?_
    try simp only [Act.put]
    refine take_next (i := 8) (.slice (some ⟨b, off + i * 3, none⟩) (p.es.length - i) (cap - i)) [9, 13] (by kernel_rfl) (by kernel_rfl) rfl (by kernel_rfl) (by kernel_rfl) (by kernel_rfl) (by kernel_rfl) (fun _ _ _ h => absurd h.1 (by simp)) (Or.inl ⟨by rfl, fun w' hSw => by go_simp⟩) hS ?_
    try simp only [Act.put]
    refine until_step (j := 4) (by kernel_rfl) rfl (by kernel_rfl) (fun KX hKX => ?_)
    have HX := hid hKX
    clear hKX
    go_simp
    refine (HC1.out _ I7.out.below).mono ?_
    rintro e w8 ⟨x1, rfl, o8, k8⟩
    have I8 := hid (I7.out.bel k8)
    have F8 := hid (E8.out.below k8 E8.out.lt)
    have F9 := hid (E9.out.below k8 E9.out.lt)
    have Z8 := hid (Nat.le_trans I7.out.below.size (Nat.le_refl _))
    refine HX.out _ _ ⟨fun _ => I8.out.b0, ?_⟩
    have O8 := hid o8
    clear HX I7 E8 E9 k8 o8
    try simp only [Act.put]
    refine take_next (i := 10) (.pointer (some ⟨ga, 5, none⟩)) [11, 12, 13] (by kernel_rfl) (by kernel_rfl) rfl (by kernel_rfl) (by kernel_rfl) (by kernel_rfl) (by kernel_rfl) (fun _ _ _ h => absurd h.1 (by simp)) (Or.inl ⟨by rfl, fun w' hSw => by go_simp⟩) I8.out.b0 ?_
    try simp only [Act.put]
    refine until_step (j := 9) (by kernel_rfl) rfl (by kernel_rfl) (fun KX hKX => ?_)
    have HX := hid hKX
    clear hKX
    go_simp
    refine (HC2.out _ I8.out.below).mono ?_
    rintro e w9 ⟨x2, rfl, o9, k9⟩
    have I9 := hid (I8.out.bel k9)
    have G8 := hid (F8.out.below k9 F8.out.lt)
    have G9 := hid (F9.out.below k9 F9.out.lt)
    have O8' := hid (own_bel O8.out k9)
    have O9 := hid o9
    have Z9 := hid I8.out.below.size
    refine HX.out _ _ ⟨fun _ => I9.out.b0, ?_⟩
    clear HX I8 F8 F9 k9 O8 o9
    try simp only [Act.put]
    obtain ⟨a1, c1, rfl⟩ := row_form O8'.out
    obtain ⟨a2, c2, rfl⟩ := row_form O9.out
    have y8 := (blk_cells G8.out).2.2.2.2.2
    have z8 := G8.out.frozen 5
    refine until_step (j := 11) (by kernel_rfl) rfl (by kernel_rfl) (fun KX hKX => ?_)
    have HX := hid hKX
    clear hKX
    go_simp
    have J8 : Hid (Blk (w9.setCell ⟨ga, 5, none⟩ (.slice a1 i c1)) ga #[.int .i64 p.lsn, .int .i64 p.kind, .int .i64 p.level, .int .i64 p.right, .string (M.bs p.high), .slice a1 i c1] 30) := hid (by
      have z := G8.out.set 5 (.slice a1 i c1)
      simpa using z)
    have J9 : Hid (Blk (w9.setCell ⟨ga, 5, none⟩ (.slice a1 i c1)) gb #[.int .i64 p.lsn, .int .i64 p.kind, .int .i64 p.level, .int .i64 p.right, .string (M.bs p.high), .slice (some ⟨b, off, none⟩) p.es.length cap] 30) := blk_other G9.out (fun e => hne' e.symm) _ _
    have JI := hid (I9.out.other (B := ga) hn8 5 (.slice a1 i c1))
    have P8 := hid (ownsRow_setCell_other (a := ⟨ga, 5, none⟩) O8'.out (fun e => row_ne O8'.out G8.out (by decide) e.symm) (.slice a1 i c1))
    have P9 := hid (ownsRow_setCell_other (a := ⟨ga, 5, none⟩) O9.out (fun e => row_ne O9.out G8.out (by decide) e.symm) (.slice a1 i c1))
    refine HX.out _ _ ⟨fun _ => JI.out.b0, ?_⟩
    clear HX G8 G9 I9 O8' O9 y8 z8
    generalize w9.setCell ⟨ga, 5, none⟩ (.slice a1 i c1) = w10 at *
    try simp only [Act.put]
    have y9 := (blk_cells J9.out).2.2.2.2.2
    have z9 := J9.out.frozen 5
    refine until_step (j := 12) (by kernel_rfl) rfl (by kernel_rfl) (fun KX hKX => ?_)
    have HX := hid hKX
    clear hKX
    go_simp
    refine HX.out _ _ ⟨fun _ => JI.out.b0, ?_⟩
    clear HX
    try simp only [Act.put]
    refine until_step (j := 13) (by kernel_rfl) rfl (by kernel_rfl) (fun KX hKX => ?_)
    have HX := hid hKX
    clear hKX
    go_simp
    have K8 : Hid (Blk (w10.setCell ⟨gb, 5, none⟩ (.slice a2 (p.es.length - i) c2)) ga #[.int .i64 p.lsn, .int .i64 p.kind, .int .i64 p.level, .int .i64 p.right, .string (M.bs p.high), .slice a1 i c1] 30) := blk_other J8.out hne' _ _
    have K9 : Hid (Blk (w10.setCell ⟨gb, 5, none⟩ (.slice a2 (p.es.length - i) c2)) gb #[.int .i64 p.lsn, .int .i64 p.kind, .int .i64 p.level, .int .i64 p.right, .string (M.bs p.high), .slice a2 (p.es.length - i) c2] 30) := hid (by
      have z := J9.out.set 5 (.slice a2 (p.es.length - i) c2)
      simpa using z)
    have KI := hid (JI.out.other (B := gb) hn9 5 (.slice a2 (p.es.length - i) c2))
    have Q8 := hid (ownsRow_setCell_other (a := ⟨gb, 5, none⟩) P8.out (fun e => row_ne P8.out J9.out (by decide) e.symm) (.slice a2 (p.es.length - i) c2))
    have Q9 := hid (ownsRow_setCell_other (a := ⟨gb, 5, none⟩) P9.out (fun e => row_ne P9.out J9.out (by decide) e.symm) (.slice a2 (p.es.length - i) c2))
    refine HX.out _ _ ⟨(fun h => by cases (Eq.trans (Eq.symm (show _ = true by kernel_rfl)) h)), ?_⟩
    clear HX J8 J9 JI P8 P9 y9 z9
    generalize w10.setCell ⟨gb, 5, none⟩ (.slice a2 (p.es.length - i) c2) = w11 at *
    refine until_done (by kernel_rfl) ⟨rfl, ?_⟩ _
    refine HL.out _ _ ?_
    clear HL
    obtain ⟨t0, t1, t2, t3, t4, t5⟩ := blk_cells KI.out.b0
    obtain ⟨u0, u1, u2, u3, u4, u5⟩ := blk_cells K8.out
    have v3 := K8.out.frozen 3
    have v4 := K8.out.frozen 4
    have r0 := (HROW.out w11 KI.out.below).1
    have hii : (i : Int) < (p.es.length : Int) := by omega
    go_wp2_with fail
    have L8 : Hid (Blk ((w11.setCell ⟨ga, 4, none⟩ (.string (M.bs (p.es[i]'hin).1))).setCell ⟨ga, 3, none⟩ (.int .i64 r)) ga #[.int .i64 p.lsn, .int .i64 p.kind, .int .i64 p.level, .int .i64 r, .string (M.bs (p.es[i]'hin).1), .slice a1 i c1] 30) := hid (by
      have z := (K8.out.set 4 (.string (M.bs (p.es[i]'hin).1))).set 3 (.int .i64 r)
      simpa using z)
    have L9 : Hid (Blk ((w11.setCell ⟨ga, 4, none⟩ (.string (M.bs (p.es[i]'hin).1))).setCell ⟨ga, 3, none⟩ (.int .i64 r)) gb #[.int .i64 p.lsn, .int .i64 p.kind, .int .i64 p.level, .int .i64 p.right, .string (M.bs p.high), .slice a2 (p.es.length - i) c2] 30) := blk_other (blk_other K9.out (fun e => hne' e.symm) _ _) (fun e => hne' e.symm) _ _
    have LI := hid ((KI.out.other (B := ga) hn8 4 (.string (M.bs (p.es[i]'hin).1))).other (B := ga) hn8 3 (.int .i64 r))
    have S8 := hid (ownsRow_setCell_other (a := ⟨ga, 3, none⟩) (ownsRow_setCell_other (a := ⟨ga, 4, none⟩) Q8.out (fun e => row_ne Q8.out K8.out (by decide) e.symm) (.string (M.bs (p.es[i]'hin).1))) (fun e => row_ne Q8.out K8.out (by decide) e.symm) (.int .i64 r))
    have S9 := hid (ownsRow_setCell_other (a := ⟨ga, 3, none⟩) (ownsRow_setCell_other (a := ⟨ga, 4, none⟩) Q9.out (fun e => row_ne Q9.out K8.out (by decide) e.symm) (.string (M.bs (p.es[i]'hin).1))) (fun e => row_ne Q9.out K8.out (by decide) e.symm) (.int .i64 r))
    clear K8 K9 KI Q8 Q9 t0 t1 t2 t3 t4 t5 u0 u1 u2 u3 u4 u5 v3 v4 r0
    generalize (w11.setCell ⟨ga, 4, none⟩ (.string (M.bs (p.es[i]'hin).1))).setCell ⟨ga, 3, none⟩ (.int .i64 r) = w12 at *
    refine wp_last fun KL hKL => ?_
    have HL := hid hKL
    clear hKL
    refine region_until (S := fun W : World => Blk W ga #[.int .i64 p.lsn, .int .i64 p.kind, .int .i64 p.level, .int .i64 r, .string (M.bs (p.es[i]'hin).1), .slice a1 i c1] 30 ∧ Blk W gb #[.int .i64 p.lsn, .int .i64 p.kind, .int .i64 p.level, .int .i64 p.right, .string (M.bs p.high), .slice a2 (p.es.length - i) c2] 30) (m := 4) (by kernel_rfl) ?_
    have b12 : Bel w12 w12.drew := Bel.dr (Below.refl _ _)
    have N8 : Hid (Blk w12.drew ga #[.int .i64 p.lsn, .int .i64 p.kind, .int .i64 p.level, .int .i64 r, .string (M.bs (p.es[i]'hin).1), .slice a1 i c1] 30) := L8.out
    have N9 : Hid (Blk w12.drew gb #[.int .i64 p.lsn, .int .i64 p.kind, .int .i64 p.level, .int .i64 p.right, .string (M.bs p.high), .slice a2 (p.es.length - i) c2] 30) := L9.out
    have NI := hid (LI.out.bel b12)
    have T8 := hid (own_bel S8.out b12)
    have T9 := hid (own_bel S9.out b12)
    clear L8 L9 LI S8 S9 b12
    generalize w12.drew = w13 at *
    have hS := And.intro N8.out N9.out
    refine take_next (i := 0) (.agg #[.int .i64 p.lsn, .int .i64 p.kind, .int .i64 p.level, .int .i64 r, .string (M.bs (p.es[i]'hin).1), .slice a1 i c1]) [2, 3, 4] (by kernel_rfl) (by kernel_rfl) rfl (by kernel_rfl) (by kernel_rfl) (by kernel_rfl) (by kernel_rfl) (fun _ _ _ h => absurd h.1 (by simp)) (Or.inl ⟨by rfl, fun w' hSw => by obtain ⟨s0, s1, s2, s3, s4, s5⟩ := blk_cells hSw.1; go_simp⟩) hS ?_
    try simp only [Act.put]
    refine take_next (i := 1) (.agg #[.int .i64 p.lsn, .int .i64 p.kind, .int .i64 p.level, .int .i64 p.right, .string (M.bs p.high), .slice a2 (p.es.length - i) c2]) [3, 4] (by kernel_rfl) (by kernel_rfl) rfl (by kernel_rfl) (by kernel_rfl) (by kernel_rfl) (by kernel_rfl) (fun _ _ _ h => absurd h.1 (by simp)) (Or.inl ⟨by rfl, fun w' hSw => by obtain ⟨s0, s1, s2, s3, s4, s5⟩ := blk_cells hSw.2; go_simp⟩) hS ?_
    try simp only [Act.put]
    obtain ⟨t0, t1, t2, t3, t4, t5⟩ := blk_cells NI.out.b1
    have f0 := NI.out.b1.frozen 0
    have f1 := NI.out.b1.frozen 1
    have f2 := NI.out.b1.frozen 2
    have f3 := NI.out.b1.frozen 3
    have f4 := NI.out.b1.frozen 4
    have f5 := NI.out.b1.frozen 5
    refine until_step (j := 2) (by kernel_rfl) rfl (by kernel_rfl) (fun KX hKX => ?_)
    have HX := hid hKX
    clear hKX
    go_simp
    have V1 := hid (set6 NI.out.b1 (.int .i64 p.lsn) (.int .i64 p.kind) (.int .i64 p.level) (.int .i64 r) (.string (M.bs (p.es[i]'hin).1)) (.slice a1 i c1))
    have V2 := hid (other6 NI.out.b2 (show w.heap.size + 1 + 1 ≠ w.heap.size + 1 by omega) (.int .i64 p.lsn) (.int .i64 p.kind) (.int .i64 p.level) (.int .i64 r) (.string (M.bs (p.es[i]'hin).1)) (.slice a1 i c1))
    have VB := hid (bel6 NI.out.below (show w.heap.size ≤ w.heap.size + 1 by omega) (.int .i64 p.lsn) (.int .i64 p.kind) (.int .i64 p.level) (.int .i64 r) (.string (M.bs (p.es[i]'hin).1)) (.slice a1 i c1))
    have VS : Hid ((fun W : World => Blk W ga #[.int .i64 p.lsn, .int .i64 p.kind, .int .i64 p.level, .int .i64 r, .string (M.bs (p.es[i]'hin).1), .slice a1 i c1] 30 ∧ Blk W gb #[.int .i64 p.lsn, .int .i64 p.kind, .int .i64 p.level, .int .i64 p.right, .string (M.bs p.high), .slice a2 (p.es.length - i) c2] 30) ((((((w13.setCell ⟨w.heap.size + 1, 0, none⟩ (.int .i64 p.lsn)).setCell ⟨w.heap.size + 1, 1, none⟩ (.int .i64 p.kind)).setCell ⟨w.heap.size + 1, 2, none⟩ (.int .i64 p.level)).setCell ⟨w.heap.size + 1, 3, none⟩ (.int .i64 r)).setCell ⟨w.heap.size + 1, 4, none⟩ (.string (M.bs (p.es[i]'hin).1))).setCell ⟨w.heap.size + 1, 5, none⟩ (.slice a1 i c1))) := And.intro (other6 N8.out (by omega) (.int .i64 p.lsn) (.int .i64 p.kind) (.int .i64 p.level) (.int .i64 r) (.string (M.bs (p.es[i]'hin).1)) (.slice a1 i c1)) (other6 N9.out (by omega) (.int .i64 p.lsn) (.int .i64 p.kind) (.int .i64 p.level) (.int .i64 r) (.string (M.bs (p.es[i]'hin).1)) (.slice a1 i c1))
    have X8 := hid (ownc6 T8.out (row_ne T8.out NI.out.b1 (by decide)) (.int .i64 p.lsn) (.int .i64 p.kind) (.int .i64 p.level) (.int .i64 r) (.string (M.bs (p.es[i]'hin).1)) (.slice a1 i c1))
    have X9 := hid (ownc6 T9.out (row_ne T9.out NI.out.b1 (by decide)) (.int .i64 p.lsn) (.int .i64 p.kind) (.int .i64 p.level) (.int .i64 r) (.string (M.bs (p.es[i]'hin).1)) (.slice a1 i c1))
    refine HX.out _ _ ⟨fun _ => VS.out, ?_⟩
    clear HX t0 t1 t2 t3 t4 t5 f0 f1 f2 f3 f4 f5 NI N8 N9 T8 T9 hS
    generalize ((((((w13.setCell ⟨w.heap.size + 1, 0, none⟩ (.int .i64 p.lsn)).setCell ⟨w.heap.size + 1, 1, none⟩ (.int .i64 p.kind)).setCell ⟨w.heap.size + 1, 2, none⟩ (.int .i64 p.level)).setCell ⟨w.heap.size + 1, 3, none⟩ (.int .i64 r)).setCell ⟨w.heap.size + 1, 4, none⟩ (.string (M.bs (p.es[i]'hin).1))).setCell ⟨w.heap.size + 1, 5, none⟩ (.slice a1 i c1)) = w14 at *
    try simp only [Act.put]
    obtain ⟨t0, t1, t2, t3, t4, t5⟩ := blk_cells V2.out
    have f0 := V2.out.frozen 0
    have f1 := V2.out.frozen 1
    have f2 := V2.out.frozen 2
    have f3 := V2.out.frozen 3
    have f4 := V2.out.frozen 4
    have f5 := V2.out.frozen 5
    refine until_step (j := 3) (by kernel_rfl) rfl (by kernel_rfl) (fun KX hKX => ?_)
    have HX := hid hKX
    clear hKX
    go_simp
    have Y1 := hid (other6 V1.out (show w.heap.size + 1 ≠ w.heap.size + 1 + 1 by omega) (.int .i64 p.lsn) (.int .i64 p.kind) (.int .i64 p.level) (.int .i64 p.right) (.string (M.bs p.high)) (.slice a2 (p.es.length - i) c2))
    have Y2 := hid (set6 V2.out (.int .i64 p.lsn) (.int .i64 p.kind) (.int .i64 p.level) (.int .i64 p.right) (.string (M.bs p.high)) (.slice a2 (p.es.length - i) c2))
    have YB := hid (bel6 VB.out (show w.heap.size ≤ w.heap.size + 1 + 1 by omega) (.int .i64 p.lsn) (.int .i64 p.kind) (.int .i64 p.level) (.int .i64 p.right) (.string (M.bs p.high)) (.slice a2 (p.es.length - i) c2))
    have YS : Hid ((fun W : World => Blk W ga #[.int .i64 p.lsn, .int .i64 p.kind, .int .i64 p.level, .int .i64 r, .string (M.bs (p.es[i]'hin).1), .slice a1 i c1] 30 ∧ Blk W gb #[.int .i64 p.lsn, .int .i64 p.kind, .int .i64 p.level, .int .i64 p.right, .string (M.bs p.high), .slice a2 (p.es.length - i) c2] 30) ((((((w14.setCell ⟨w.heap.size + 1 + 1, 0, none⟩ (.int .i64 p.lsn)).setCell ⟨w.heap.size + 1 + 1, 1, none⟩ (.int .i64 p.kind)).setCell ⟨w.heap.size + 1 + 1, 2, none⟩ (.int .i64 p.level)).setCell ⟨w.heap.size + 1 + 1, 3, none⟩ (.int .i64 p.right)).setCell ⟨w.heap.size + 1 + 1, 4, none⟩ (.string (M.bs p.high))).setCell ⟨w.heap.size + 1 + 1, 5, none⟩ (.slice a2 (p.es.length - i) c2))) := And.intro (other6 VS.out.1 (by omega) (.int .i64 p.lsn) (.int .i64 p.kind) (.int .i64 p.level) (.int .i64 p.right) (.string (M.bs p.high)) (.slice a2 (p.es.length - i) c2)) (other6 VS.out.2 (by omega) (.int .i64 p.lsn) (.int .i64 p.kind) (.int .i64 p.level) (.int .i64 p.right) (.string (M.bs p.high)) (.slice a2 (p.es.length - i) c2))
    have Z1 := hid (ownc6 X8.out (row_ne X8.out V2.out (by decide)) (.int .i64 p.lsn) (.int .i64 p.kind) (.int .i64 p.level) (.int .i64 p.right) (.string (M.bs p.high)) (.slice a2 (p.es.length - i) c2))
    have Z2 := hid (ownc6 X9.out (row_ne X9.out V2.out (by decide)) (.int .i64 p.lsn) (.int .i64 p.kind) (.int .i64 p.level) (.int .i64 p.right) (.string (M.bs p.high)) (.slice a2 (p.es.length - i) c2))
    refine HX.out _ _ ⟨fun _ => YS.out, ?_⟩
    clear HX t0 t1 t2 t3 t4 t5 f0 f1 f2 f3 f4 f5 V1 V2 VB VS X8 X9
    generalize ((((((w14.setCell ⟨w.heap.size + 1 + 1, 0, none⟩ (.int .i64 p.lsn)).setCell ⟨w.heap.size + 1 + 1, 1, none⟩ (.int .i64 p.kind)).setCell ⟨w.heap.size + 1 + 1, 2, none⟩ (.int .i64 p.level)).setCell ⟨w.heap.size + 1 + 1, 3, none⟩ (.int .i64 p.right)).setCell ⟨w.heap.size + 1 + 1, 4, none⟩ (.string (M.bs p.high))).setCell ⟨w.heap.size + 1 + 1, 5, none⟩ (.slice a2 (p.es.length - i) c2)) = w15 at *
    try simp only [Act.put]
    refine until_step (j := 4) (by kernel_rfl) rfl (by kernel_rfl) (fun KX hKX => ?_)
    have HX := hid hKX
    clear hKX
    go_simp
    refine HX.out _ _ ⟨(fun h => by cases (Eq.trans (Eq.symm (show _ = true by kernel_rfl)) h)), ?_⟩
    clear HX
    try simp only [Act.put]
    refine until_done (by kernel_rfl) ⟨rfl, ?_⟩ _
    refine HL.out _ _ ?_
    clear HL
    go_wp2_with fail
    refine bodyPost_ret (results_cells3 (p := 4) (q := 5) (ty := 30) (u := 6) rfl _ _ (w.heap.size + 1) _ (w.heap.size + 1 + 1) _ rfl rfl (load30 Y1.out rfl) (load30 Y2.out rfl)) rfl ?_
    exact ⟨i, hin, HM.out.1, _, _, by rw [HG.out]; rfl, own_base Z1.out Z8.out, own_base Z2.out Z9.out, YB.out⟩
  · skip
    refine wpOp_step rfl (fun KX hKX => ?_)
    have HX := hid hKX
    clear hKX
    go_simp
    refine HX.out _ _ ⟨fun _ => (I5.out.bel (Bel.al (Below.refl _ _) _)).b0, ?_⟩
    clear HX
    try simp only [Act.put]
    refine until_step (j := 2) (by kernel_rfl) rfl (by kernel_rfl) (fun KX hKX => ?_)
    have HX := hid hKX
    clear hKX
    go_simp
    refine HX.out _ _ ⟨fun _ => (I5.out.bel (Bel.al (Bel.al (Below.refl _ _) _) _)).b0, ?_⟩
    clear HX
    try simp only [Act.put]
    refine until_step (j := 4) (by kernel_rfl) rfl (by kernel_rfl) (fun KX hKX => ?_)
    have HX := hid hKX
    clear hKX
    go_simp
    refine HX.out _ _ ⟨fun _ => (I5.out.bel (Bel.al (Bel.al (Below.refl _ _) _) _)).b0, ?_⟩
    clear HX
    try simp only [Act.put]
    refine until_step (j := 5) (by kernel_rfl) rfl (by kernel_rfl) (fun KX hKX => ?_)
    have HX := hid hKX
    clear hKX
    go_simp
    refine HX.out _ _ ⟨(fun h => by cases (Eq.trans (Eq.symm (show _ = true by kernel_rfl)) h)), ?_⟩
    clear HX
    refine until_done (by kernel_rfl) ⟨rfl, ?_⟩ _
    refine HL.out _ _ ?_
    clear HL
    obtain ⟨D1, D2⟩ := heap_two w5 (.cells #[.int .i64 p.lsn, .int .i64 p.kind, .int .i64 p.level, .int .i64 p.right, .string (M.bs p.high), .slice (some ⟨b, off, none⟩) p.es.length cap] 30) (.cells #[.int .i64 p.lsn, .int .i64 p.kind, .int .i64 p.level, .int .i64 p.right, .string (M.bs p.high), .slice (some ⟨b, off, none⟩) p.es.length cap] 30)
    have I6 := hid (I5.out.bel (Bel.al (Bel.al (Below.refl _ _) (.cells #[.int .i64 p.lsn, .int .i64 p.kind, .int .i64 p.level, .int .i64 p.right, .string (M.bs p.high), .slice (some ⟨b, off, none⟩) p.es.length cap] 30)) (.cells #[.int .i64 p.lsn, .int .i64 p.kind, .int .i64 p.level, .int .i64 p.right, .string (M.bs p.high), .slice (some ⟨b, off, none⟩) p.es.length cap] 30)))
    have hg1 := I5.out.b2.lt
    clear I5 hS
    generalize hw6 : (w5.alloc (.cells #[.int .i64 p.lsn, .int .i64 p.kind, .int .i64 p.level, .int .i64 p.right, .string (M.bs p.high), .slice (some ⟨b, off, none⟩) p.es.length cap] 30)).alloc (.cells #[.int .i64 p.lsn, .int .i64 p.kind, .int .i64 p.level, .int .i64 p.right, .string (M.bs p.high), .slice (some ⟨b, off, none⟩) p.es.length cap] 30) = w6 at *
    clear hw6
    obtain ⟨ga, hga⟩ : ∃ ga, ga = w5.heap.size := ⟨_, rfl⟩
    obtain ⟨gb, hgb⟩ : ∃ gb, gb = w5.heap.size + 1 := ⟨_, rfl⟩
    rw [← hgb] at D2 ⊢
    rw [← hga] at D1 hg1 ⊢
    have hne : ga ≠ gb := by omega
    have hgb1 : w.heap.size + 1 + 1 < gb := by omega
    clear hga hgb
    have D8 : Hid (Blk w6 gb #[.int .i64 p.lsn, .int .i64 p.kind, .int .i64 p.level, .int .i64 p.right, .string (M.bs p.high), .slice (some ⟨b, off, none⟩) p.es.length cap] 30) := D2
    have D9 : Hid (Blk w6 ga #[.int .i64 p.lsn, .int .i64 p.kind, .int .i64 p.level, .int .i64 p.right, .string (M.bs p.high), .slice (some ⟨b, off, none⟩) p.es.length cap] 30) := D1
    have hn8 : w.heap.size + 1 + 1 < gb := by omega
    have hn9 : w.heap.size + 1 + 1 < ga := by omega
    have hne' : gb ≠ ga := by omega
    clear D1 D2 hne
    go_wp2_with fail
    refine wp_last fun KL hKL => ?_
    have HL := hid hKL
    clear hKL
    refine region_until (S := fun W : World => Blk W w.heap.size #[.int .i64 p.lsn, .int .i64 p.kind, .int .i64 p.level, .int .i64 p.right, .string (M.bs p.high), .slice (some ⟨b, off, none⟩) p.es.length cap] 30) (m := 13) (by kernel_rfl) ?_
    have I7 := hid (I6.out.bel (Bel.dr (Below.refl _ _)))
    have E8 : Hid (Blk w6.drew gb #[.int .i64 p.lsn, .int .i64 p.kind, .int .i64 p.level, .int .i64 p.right, .string (M.bs p.high), .slice (some ⟨b, off, none⟩) p.es.length cap] 30) := D8.out
    have E9 : Hid (Blk w6.drew ga #[.int .i64 p.lsn, .int .i64 p.kind, .int .i64 p.level, .int .i64 p.right, .string (M.bs p.high), .slice (some ⟨b, off, none⟩) p.es.length cap] 30) := D9.out
    clear I6 D8 D9
    generalize w6.drew = w7 at *
    have hS := I7.out.b0
    refine take_next (i := 0) (.pointer (some ⟨w.heap.size, 5, none⟩)) [10, 11, 12, 13] (by kernel_rfl) (by kernel_rfl) rfl (by kernel_rfl) (by kernel_rfl) (by kernel_rfl) (by kernel_rfl) (fun _ _ _ h => absurd h.1 (by simp)) (Or.inl ⟨by rfl, fun w' hSw => by obtain ⟨s0, s1, s2, s3, s4, s5⟩ := blk_cells hSw; go_simp⟩) hS ?_
    try simp only [Act.put]
    refine take_next (i := 1) (.slice (some ⟨b, off, none⟩) p.es.length cap) [3, 4, 9, 13] (by kernel_rfl) (by kernel_rfl) rfl (by kernel_rfl) (by kernel_rfl) (by kernel_rfl) (by kernel_rfl) (fun _ _ _ h => absurd h.1 (by simp)) (Or.inl ⟨by rfl, fun w' hSw => by obtain ⟨s0, s1, s2, s3, s4, s5⟩ := blk_cells hSw; go_simp⟩) hS ?_
    try simp only [Act.put]
    refine take_next (i := 2) (.int .i64 (i : Nat)) [3, 4, 9, 13] (by kernel_rfl) (by kernel_rfl) rfl (by kernel_rfl) (by kernel_rfl) (by kernel_rfl) (by kernel_rfl) (fun _ _ _ h => absurd h.1 (by simp)) (Or.inl ⟨by rfl, fun w' hSw => by go_simp⟩) hS ?_
    try simp only [Act.put]
    refine take_next (i := 3) (.slice (some ⟨b, off, none⟩) i cap) [4, 9, 13] (by kernel_rfl) (by kernel_rfl) rfl (by kernel_rfl) (by kernel_rfl) (by kernel_rfl) (by kernel_rfl) (fun _ _ _ h => absurd h.1 (by simp)) (Or.inl ⟨by rfl, fun w' hSw => by go_simp⟩) hS ?_
    try simp only [Act.put]
    refine take_next (i := 5) (.pointer (some ⟨w.heap.size, 5, none⟩)) [6, 8, 9, 13] (by kernel_rfl) (by kernel_rfl) rfl (by kernel_rfl) (by kernel_rfl) (by kernel_rfl) (by kernel_rfl) (fun _ _ _ h => absurd h.1 (by simp)) (Or.inl ⟨by rfl, fun w' hSw => by obtain ⟨s0, s1, s2, s3, s4, s5⟩ := blk_cells hSw; go_simp⟩) hS ?_
    try simp only [Act.put]
    refine take_next (i := 6) (.slice (some ⟨b, off, none⟩) p.es.length cap) [8, 9, 13] (by kernel_rfl) (by kernel_rfl) rfl (by kernel_rfl) (by kernel_rfl) (by kernel_rfl) (by kernel_rfl) (fun _ _ _ h => absurd h.1 (by simp)) (Or.inl ⟨by rfl, fun w' hSw => by obtain ⟨s0, s1, s2, s3, s4, s5⟩ := blk_cells hSw; go_simp⟩) hS ?_
    try simp only [Act.put]
    refine take_next (i := 7) (.int .i64 (i : Nat)) [8, 9, 13] (by kernel_rfl) (by kernel_rfl) rfl (by kernel_rfl) (by kernel_rfl) (by kernel_rfl) (by kernel_rfl) (fun _ _ _ h => absurd h.1 (by simp)) (Or.inl ⟨by rfl, fun w' hSw => by go_simp⟩) hS ?_
    try simp only [Act.put]
    refine take_next (i := 8) (.slice (some ⟨b, off + i * 3, none⟩) (p.es.length - i) (cap - i)) [9, 13] (by kernel_rfl) (by kernel_rfl) rfl (by kernel_rfl) (by kernel_rfl) (by kernel_rfl) (by kernel_rfl) (fun _ _ _ h => absurd h.1 (by simp)) (Or.inl ⟨by rfl, fun w' hSw => by go_simp⟩) hS ?_
    try simp only [Act.put]
    refine until_step (j := 4) (by kernel_rfl) rfl (by kernel_rfl) (fun KX hKX => ?_)
    have HX := hid hKX
    clear hKX
    go_simp
    refine (HC1.out _ I7.out.below).mono ?_
    rintro e w8 ⟨x1, rfl, o8, k8⟩
    have I8 := hid (I7.out.bel k8)
    have F8 := hid (E8.out.below k8 E8.out.lt)
    have F9 := hid (E9.out.below k8 E9.out.lt)
    have Z8 := hid (Nat.le_trans I7.out.below.size (Nat.le_refl _))
    refine HX.out _ _ ⟨fun _ => I8.out.b0, ?_⟩
    have O8 := hid o8
    clear HX I7 E8 E9 k8 o8
    try simp only [Act.put]
    refine take_next (i := 10) (.pointer (some ⟨gb, 5, none⟩)) [11, 12, 13] (by kernel_rfl) (by kernel_rfl) rfl (by kernel_rfl) (by kernel_rfl) (by kernel_rfl) (by kernel_rfl) (fun _ _ _ h => absurd h.1 (by simp)) (Or.inl ⟨by rfl, fun w' hSw => by go_simp⟩) I8.out.b0 ?_
    try simp only [Act.put]
    refine until_step (j := 9) (by kernel_rfl) rfl (by kernel_rfl) (fun KX hKX => ?_)
    have HX := hid hKX
    clear hKX
    go_simp
    refine (HC2.out _ I8.out.below).mono ?_
    rintro e w9 ⟨x2, rfl, o9, k9⟩
    have I9 := hid (I8.out.bel k9)
    have G8 := hid (F8.out.below k9 F8.out.lt)
    have G9 := hid (F9.out.below k9 F9.out.lt)
    have O8' := hid (own_bel O8.out k9)
    have O9 := hid o9
    have Z9 := hid I8.out.below.size
    refine HX.out _ _ ⟨fun _ => I9.out.b0, ?_⟩
    clear HX I8 F8 F9 k9 O8 o9
    try simp only [Act.put]
    obtain ⟨a1, c1, rfl⟩ := row_form O8'.out
    obtain ⟨a2, c2, rfl⟩ := row_form O9.out
    have y8 := (blk_cells G8.out).2.2.2.2.2
    have z8 := G8.out.frozen 5
    refine until_step (j := 11) (by kernel_rfl) rfl (by kernel_rfl) (fun KX hKX => ?_)
    have HX := hid hKX
    clear hKX
    go_simp
    have J8 : Hid (Blk (w9.setCell ⟨gb, 5, none⟩ (.slice a1 i c1)) gb #[.int .i64 p.lsn, .int .i64 p.kind, .int .i64 p.level, .int .i64 p.right, .string (M.bs p.high), .slice a1 i c1] 30) := hid (by
      have z := G8.out.set 5 (.slice a1 i c1)
      simpa using z)
    have J9 : Hid (Blk (w9.setCell ⟨gb, 5, none⟩ (.slice a1 i c1)) ga #[.int .i64 p.lsn, .int .i64 p.kind, .int .i64 p.level, .int .i64 p.right, .string (M.bs p.high), .slice (some ⟨b, off, none⟩) p.es.length cap] 30) := blk_other G9.out (fun e => hne' e.symm) _ _
    have JI := hid (I9.out.other (B := gb) hn8 5 (.slice a1 i c1))
    have P8 := hid (ownsRow_setCell_other (a := ⟨gb, 5, none⟩) O8'.out (fun e => row_ne O8'.out G8.out (by decide) e.symm) (.slice a1 i c1))
    have P9 := hid (ownsRow_setCell_other (a := ⟨gb, 5, none⟩) O9.out (fun e => row_ne O9.out G8.out (by decide) e.symm) (.slice a1 i c1))
    refine HX.out _ _ ⟨fun _ => JI.out.b0, ?_⟩
    clear HX G8 G9 I9 O8' O9 y8 z8
    generalize w9.setCell ⟨gb, 5, none⟩ (.slice a1 i c1) = w10 at *
    try simp only [Act.put]
    have y9 := (blk_cells J9.out).2.2.2.2.2
    have z9 := J9.out.frozen 5
    refine until_step (j := 12) (by kernel_rfl) rfl (by kernel_rfl) (fun KX hKX => ?_)
    have HX := hid hKX
    clear hKX
    go_simp
    refine HX.out _ _ ⟨fun _ => JI.out.b0, ?_⟩
    clear HX
    try simp only [Act.put]
    refine until_step (j := 13) (by kernel_rfl) rfl (by kernel_rfl) (fun KX hKX => ?_)
    have HX := hid hKX
    clear hKX
    go_simp
    have K8 : Hid (Blk (w10.setCell ⟨ga, 5, none⟩ (.slice a2 (p.es.length - i) c2)) gb #[.int .i64 p.lsn, .int .i64 p.kind, .int .i64 p.level, .int .i64 p.right, .string (M.bs p.high), .slice a1 i c1] 30) := blk_other J8.out hne' _ _
    have K9 : Hid (Blk (w10.setCell ⟨ga, 5, none⟩ (.slice a2 (p.es.length - i) c2)) ga #[.int .i64 p.lsn, .int .i64 p.kind, .int .i64 p.level, .int .i64 p.right, .string (M.bs p.high), .slice a2 (p.es.length - i) c2] 30) := hid (by
      have z := J9.out.set 5 (.slice a2 (p.es.length - i) c2)
      simpa using z)
    have KI := hid (JI.out.other (B := ga) hn9 5 (.slice a2 (p.es.length - i) c2))
    have Q8 := hid (ownsRow_setCell_other (a := ⟨ga, 5, none⟩) P8.out (fun e => row_ne P8.out J9.out (by decide) e.symm) (.slice a2 (p.es.length - i) c2))
    have Q9 := hid (ownsRow_setCell_other (a := ⟨ga, 5, none⟩) P9.out (fun e => row_ne P9.out J9.out (by decide) e.symm) (.slice a2 (p.es.length - i) c2))
    refine HX.out _ _ ⟨(fun h => by cases (Eq.trans (Eq.symm (show _ = true by kernel_rfl)) h)), ?_⟩
    clear HX J8 J9 JI P8 P9 y9 z9
    generalize w10.setCell ⟨ga, 5, none⟩ (.slice a2 (p.es.length - i) c2) = w11 at *
    refine until_done (by kernel_rfl) ⟨rfl, ?_⟩ _
    refine HL.out _ _ ?_
    clear HL
    obtain ⟨t0, t1, t2, t3, t4, t5⟩ := blk_cells KI.out.b0
    obtain ⟨u0, u1, u2, u3, u4, u5⟩ := blk_cells K8.out
    have v3 := K8.out.frozen 3
    have v4 := K8.out.frozen 4
    have r0 := (HROW.out w11 KI.out.below).1
    have hii : (i : Int) < (p.es.length : Int) := by omega
    go_wp2_with fail
    have L8 : Hid (Blk ((w11.setCell ⟨gb, 4, none⟩ (.string (M.bs (p.es[i]'hin).1))).setCell ⟨gb, 3, none⟩ (.int .i64 r)) gb #[.int .i64 p.lsn, .int .i64 p.kind, .int .i64 p.level, .int .i64 r, .string (M.bs (p.es[i]'hin).1), .slice a1 i c1] 30) := hid (by
      have z := (K8.out.set 4 (.string (M.bs (p.es[i]'hin).1))).set 3 (.int .i64 r)
      simpa using z)
    have L9 : Hid (Blk ((w11.setCell ⟨gb, 4, none⟩ (.string (M.bs (p.es[i]'hin).1))).setCell ⟨gb, 3, none⟩ (.int .i64 r)) ga #[.int .i64 p.lsn, .int .i64 p.kind, .int .i64 p.level, .int .i64 p.right, .string (M.bs p.high), .slice a2 (p.es.length - i) c2] 30) := blk_other (blk_other K9.out (fun e => hne' e.symm) _ _) (fun e => hne' e.symm) _ _
    have LI := hid ((KI.out.other (B := gb) hn8 4 (.string (M.bs (p.es[i]'hin).1))).other (B := gb) hn8 3 (.int .i64 r))
    have S8 := hid (ownsRow_setCell_other (a := ⟨gb, 3, none⟩) (ownsRow_setCell_other (a := ⟨gb, 4, none⟩) Q8.out (fun e => row_ne Q8.out K8.out (by decide) e.symm) (.string (M.bs (p.es[i]'hin).1))) (fun e => row_ne Q8.out K8.out (by decide) e.symm) (.int .i64 r))
    have S9 := hid (ownsRow_setCell_other (a := ⟨gb, 3, none⟩) (ownsRow_setCell_other (a := ⟨gb, 4, none⟩) Q9.out (fun e => row_ne Q9.out K8.out (by decide) e.symm) (.string (M.bs (p.es[i]'hin).1))) (fun e => row_ne Q9.out K8.out (by decide) e.symm) (.int .i64 r))
    clear K8 K9 KI Q8 Q9 t0 t1 t2 t3 t4 t5 u0 u1 u2 u3 u4 u5 v3 v4 r0
    generalize (w11.setCell ⟨gb, 4, none⟩ (.string (M.bs (p.es[i]'hin).1))).setCell ⟨gb, 3, none⟩ (.int .i64 r) = w12 at *
    refine wp_last fun KL hKL => ?_
    have HL := hid hKL
    clear hKL
    refine region_until (S := fun W : World => Blk W gb #[.int .i64 p.lsn, .int .i64 p.kind, .int .i64 p.level, .int .i64 r, .string (M.bs (p.es[i]'hin).1), .slice a1 i c1] 30 ∧ Blk W ga #[.int .i64 p.lsn, .int .i64 p.kind, .int .i64 p.level, .int .i64 p.right, .string (M.bs p.high), .slice a2 (p.es.length - i) c2] 30) (m := 4) (by kernel_rfl) ?_
    have b12 : Bel w12 w12.drew := Bel.dr (Below.refl _ _)
    have N8 : Hid (Blk w12.drew gb #[.int .i64 p.lsn, .int .i64 p.kind, .int .i64 p.level, .int .i64 r, .string (M.bs (p.es[i]'hin).1), .slice a1 i c1] 30) := L8.out
    have N9 : Hid (Blk w12.drew ga #[.int .i64 p.lsn, .int .i64 p.kind, .int .i64 p.level, .int .i64 p.right, .string (M.bs p.high), .slice a2 (p.es.length - i) c2] 30) := L9.out
    have NI := hid (LI.out.bel b12)
    have T8 := hid (own_bel S8.out b12)
    have T9 := hid (own_bel S9.out b12)
    clear L8 L9 LI S8 S9 b12
    generalize w12.drew = w13 at *
    have hS := And.intro N8.out N9.out
    refine take_next (i := 0) (.agg #[.int .i64 p.lsn, .int .i64 p.kind, .int .i64 p.level, .int .i64 r, .string (M.bs (p.es[i]'hin).1), .slice a1 i c1]) [2, 3, 4] (by kernel_rfl) (by kernel_rfl) rfl (by kernel_rfl) (by kernel_rfl) (by kernel_rfl) (by kernel_rfl) (fun _ _ _ h => absurd h.1 (by simp)) (Or.inl ⟨by rfl, fun w' hSw => by obtain ⟨s0, s1, s2, s3, s4, s5⟩ := blk_cells hSw.1; go_simp⟩) hS ?_
    try simp only [Act.put]
    refine take_next (i := 1) (.agg #[.int .i64 p.lsn, .int .i64 p.kind, .int .i64 p.level, .int .i64 p.right, .string (M.bs p.high), .slice a2 (p.es.length - i) c2]) [3, 4] (by kernel_rfl) (by kernel_rfl) rfl (by kernel_rfl) (by kernel_rfl) (by kernel_rfl) (by kernel_rfl) (fun _ _ _ h => absurd h.1 (by simp)) (Or.inl ⟨by rfl, fun w' hSw => by obtain ⟨s0, s1, s2, s3, s4, s5⟩ := blk_cells hSw.2; go_simp⟩) hS ?_
    try simp only [Act.put]
    obtain ⟨t0, t1, t2, t3, t4, t5⟩ := blk_cells NI.out.b1
    have f0 := NI.out.b1.frozen 0
    have f1 := NI.out.b1.frozen 1
    have f2 := NI.out.b1.frozen 2
    have f3 := NI.out.b1.frozen 3
    have f4 := NI.out.b1.frozen 4
    have f5 := NI.out.b1.frozen 5
    refine until_step (j := 2) (by kernel_rfl) rfl (by kernel_rfl) (fun KX hKX => ?_)
    have HX := hid hKX
    clear hKX
    go_simp
    have V1 := hid (set6 NI.out.b1 (.int .i64 p.lsn) (.int .i64 p.kind) (.int .i64 p.level) (.int .i64 r) (.string (M.bs (p.es[i]'hin).1)) (.slice a1 i c1))
    have V2 := hid (other6 NI.out.b2 (show w.heap.size + 1 + 1 ≠ w.heap.size + 1 by omega) (.int .i64 p.lsn) (.int .i64 p.kind) (.int .i64 p.level) (.int .i64 r) (.string (M.bs (p.es[i]'hin).1)) (.slice a1 i c1))
    have VB := hid (bel6 NI.out.below (show w.heap.size ≤ w.heap.size + 1 by omega) (.int .i64 p.lsn) (.int .i64 p.kind) (.int .i64 p.level) (.int .i64 r) (.string (M.bs (p.es[i]'hin).1)) (.slice a1 i c1))
    have VS : Hid ((fun W : World => Blk W gb #[.int .i64 p.lsn, .int .i64 p.kind, .int .i64 p.level, .int .i64 r, .string (M.bs (p.es[i]'hin).1), .slice a1 i c1] 30 ∧ Blk W ga #[.int .i64 p.lsn, .int .i64 p.kind, .int .i64 p.level, .int .i64 p.right, .string (M.bs p.high), .slice a2 (p.es.length - i) c2] 30) ((((((w13.setCell ⟨w.heap.size + 1, 0, none⟩ (.int .i64 p.lsn)).setCell ⟨w.heap.size + 1, 1, none⟩ (.int .i64 p.kind)).setCell ⟨w.heap.size + 1, 2, none⟩ (.int .i64 p.level)).setCell ⟨w.heap.size + 1, 3, none⟩ (.int .i64 r)).setCell ⟨w.heap.size + 1, 4, none⟩ (.string (M.bs (p.es[i]'hin).1))).setCell ⟨w.heap.size + 1, 5, none⟩ (.slice a1 i c1))) := And.intro (other6 N8.out (by omega) (.int .i64 p.lsn) (.int .i64 p.kind) (.int .i64 p.level) (.int .i64 r) (.string (M.bs (p.es[i]'hin).1)) (.slice a1 i c1)) (other6 N9.out (by omega) (.int .i64 p.lsn) (.int .i64 p.kind) (.int .i64 p.level) (.int .i64 r) (.string (M.bs (p.es[i]'hin).1)) (.slice a1 i c1))
    have X8 := hid (ownc6 T8.out (row_ne T8.out NI.out.b1 (by decide)) (.int .i64 p.lsn) (.int .i64 p.kind) (.int .i64 p.level) (.int .i64 r) (.string (M.bs (p.es[i]'hin).1)) (.slice a1 i c1))
    have X9 := hid (ownc6 T9.out (row_ne T9.out NI.out.b1 (by decide)) (.int .i64 p.lsn) (.int .i64 p.kind) (.int .i64 p.level) (.int .i64 r) (.string (M.bs (p.es[i]'hin).1)) (.slice a1 i c1))
    refine HX.out _ _ ⟨fun _ => VS.out, ?_⟩
    clear HX t0 t1 t2 t3 t4 t5 f0 f1 f2 f3 f4 f5 NI N8 N9 T8 T9 hS
    generalize ((((((w13.setCell ⟨w.heap.size + 1, 0, none⟩ (.int .i64 p.lsn)).setCell ⟨w.heap.size + 1, 1, none⟩ (.int .i64 p.kind)).setCell ⟨w.heap.size + 1, 2, none⟩ (.int .i64 p.level)).setCell ⟨w.heap.size + 1, 3, none⟩ (.int .i64 r)).setCell ⟨w.heap.size + 1, 4, none⟩ (.string (M.bs (p.es[i]'hin).1))).setCell ⟨w.heap.size + 1, 5, none⟩ (.slice a1 i c1)) = w14 at *
    try simp only [Act.put]
    obtain ⟨t0, t1, t2, t3, t4, t5⟩ := blk_cells V2.out
    have f0 := V2.out.frozen 0
    have f1 := V2.out.frozen 1
    have f2 := V2.out.frozen 2
    have f3 := V2.out.frozen 3
    have f4 := V2.out.frozen 4
    have f5 := V2.out.frozen 5
    refine until_step (j := 3) (by kernel_rfl) rfl (by kernel_rfl) (fun KX hKX => ?_)
    have HX := hid hKX
    clear hKX
    go_simp
    have Y1 := hid (other6 V1.out (show w.heap.size + 1 ≠ w.heap.size + 1 + 1 by omega) (.int .i64 p.lsn) (.int .i64 p.kind) (.int .i64 p.level) (.int .i64 p.right) (.string (M.bs p.high)) (.slice a2 (p.es.length - i) c2))
    have Y2 := hid (set6 V2.out (.int .i64 p.lsn) (.int .i64 p.kind) (.int .i64 p.level) (.int .i64 p.right) (.string (M.bs p.high)) (.slice a2 (p.es.length - i) c2))
    have YB := hid (bel6 VB.out (show w.heap.size ≤ w.heap.size + 1 + 1 by omega) (.int .i64 p.lsn) (.int .i64 p.kind) (.int .i64 p.level) (.int .i64 p.right) (.string (M.bs p.high)) (.slice a2 (p.es.length - i) c2))
    have YS : Hid ((fun W : World => Blk W gb #[.int .i64 p.lsn, .int .i64 p.kind, .int .i64 p.level, .int .i64 r, .string (M.bs (p.es[i]'hin).1), .slice a1 i c1] 30 ∧ Blk W ga #[.int .i64 p.lsn, .int .i64 p.kind, .int .i64 p.level, .int .i64 p.right, .string (M.bs p.high), .slice a2 (p.es.length - i) c2] 30) ((((((w14.setCell ⟨w.heap.size + 1 + 1, 0, none⟩ (.int .i64 p.lsn)).setCell ⟨w.heap.size + 1 + 1, 1, none⟩ (.int .i64 p.kind)).setCell ⟨w.heap.size + 1 + 1, 2, none⟩ (.int .i64 p.level)).setCell ⟨w.heap.size + 1 + 1, 3, none⟩ (.int .i64 p.right)).setCell ⟨w.heap.size + 1 + 1, 4, none⟩ (.string (M.bs p.high))).setCell ⟨w.heap.size + 1 + 1, 5, none⟩ (.slice a2 (p.es.length - i) c2))) := And.intro (other6 VS.out.1 (by omega) (.int .i64 p.lsn) (.int .i64 p.kind) (.int .i64 p.level) (.int .i64 p.right) (.string (M.bs p.high)) (.slice a2 (p.es.length - i) c2)) (other6 VS.out.2 (by omega) (.int .i64 p.lsn) (.int .i64 p.kind) (.int .i64 p.level) (.int .i64 p.right) (.string (M.bs p.high)) (.slice a2 (p.es.length - i) c2))
    have Z1 := hid (ownc6 X8.out (row_ne X8.out V2.out (by decide)) (.int .i64 p.lsn) (.int .i64 p.kind) (.int .i64 p.level) (.int .i64 p.right) (.string (M.bs p.high)) (.slice a2 (p.es.length - i) c2))
    have Z2 := hid (ownc6 X9.out (row_ne X9.out V2.out (by decide)) (.int .i64 p.lsn) (.int .i64 p.kind) (.int .i64 p.level) (.int .i64 p.right) (.string (M.bs p.high)) (.slice a2 (p.es.length - i) c2))
    refine HX.out _ _ ⟨fun _ => YS.out, ?_⟩
    clear HX t0 t1 t2 t3 t4 t5 f0 f1 f2 f3 f4 f5 V1 V2 VB VS X8 X9
    generalize ((((((w14.setCell ⟨w.heap.size + 1 + 1, 0, none⟩ (.int .i64 p.lsn)).setCell ⟨w.heap.size + 1 + 1, 1, none⟩ (.int .i64 p.kind)).setCell ⟨w.heap.size + 1 + 1, 2, none⟩ (.int .i64 p.level)).setCell ⟨w.heap.size + 1 + 1, 3, none⟩ (.int .i64 p.right)).setCell ⟨w.heap.size + 1 + 1, 4, none⟩ (.string (M.bs p.high))).setCell ⟨w.heap.size + 1 + 1, 5, none⟩ (.slice a2 (p.es.length - i) c2)) = w15 at *
    try simp only [Act.put]
    refine until_step (j := 4) (by kernel_rfl) rfl (by kernel_rfl) (fun KX hKX => ?_)
    have HX := hid hKX
    clear hKX
    go_simp
    refine HX.out _ _ ⟨(fun h => by cases (Eq.trans (Eq.symm (show _ = true by kernel_rfl)) h)), ?_⟩
    clear HX
    try simp only [Act.put]
    refine until_done (by kernel_rfl) ⟨rfl, ?_⟩ _
    refine HL.out _ _ ?_
    clear HL
    go_wp2_with fail
    refine bodyPost_ret (results_cells3 (p := 4) (q := 5) (ty := 30) (u := 6) rfl _ _ (w.heap.size + 1) _ (w.heap.size + 1 + 1) _ rfl rfl (load30 Y1.out rfl) (load30 Y2.out rfl)) rfl ?_
    exact ⟨i, hin, HM.out.1, _, _, by rw [HG.out]; rfl, own_base Z1.out Z8.out, own_base Z2.out Z9.out, YB.out⟩
end Go.Proofs.Ytcmplklefeicbaa
