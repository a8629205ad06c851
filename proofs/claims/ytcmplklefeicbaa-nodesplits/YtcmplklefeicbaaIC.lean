/-
  The document's Split, where it splits, walked.
-/
import Derived.Test.YtcmplklefeicbaaIB
namespace Go.Proofs.Ytcmplklefeicbaa
open Go.RowKit
set_option maxRecDepth 100000

theorem SC.other {w W : World} {cs : Array Value} (h : SC w W cs) {B : Nat} (hB : w.heap.size + 1 + 1 < B) (j : Nat) (v : Value) : SC w (W.setCell ⟨B, j, none⟩ v) cs :=
  ⟨blk_other h.b0 (by omega) _ _, blk_other h.b1 (by omega) _ _, blk_other h.b2 (by omega) _ _, Below.setCell h.below (show w.heap.size ≤ B by omega) v⟩
theorem wp_join2 {P : Program} {s : Code} {K : Go.Act → World → Prop} {a : Go.Act} {w : World} (f : Nat → Nat → Go.Act → Go.Act) (R : Nat → Nat → World → Prop) (h : s.wp P (fun e a' w' => e = .normal ∧ ∃ g8 g9, a' = f g8 g9 a ∧ R g8 g9 w') a w) (k : ∀ g8 g9 w', R g8 g9 w' → K (f g8 g9 a) w') : s.wp P (fun e a w => e = .normal ∧ K a w) a w :=
  wp_mono h (by rintro e a' w' ⟨rfl, g8, g9, rfl, hr⟩; exact ⟨rfl, k g8 g9 w' hr⟩)
set_option maxHeartbeats 16000000 in
theorem rsplit_yes (p : M.Pg) (b off cap : Nat) (r : Int) (w : World) (hs : Sm p) (hcap : p.es.length ≤ cap) (hb : b < w.heap.size) (hr : Row3 w b off p.es) (hL : 2 ≤ p.es.length) (h1 : 1 ≤ r) (h2 : r ≤ 65535) :
    Calls Try.prog 19 #[pv p (.slice (some ⟨b, off, none⟩) p.es.length cap), .int .i64 r] w fun e w' => ∃ i : Nat, i < p.es.length ∧ (1 ≤ i ∧ i ≤ p.es.length - 1 ∧ (∀ j, 1 ≤ j → j < i → M.szs (p.es.take j) < M.szs (p.es.drop j)) ∧ (i = p.es.length - 1 ∨ M.szs (p.es.drop i) ≤ M.szs (p.es.take i))) ∧
      ∃ x1 x2, e = .returned (.tuple #[pv { p with es := p.es.take i, high := (p.es[i]?.getD ([], [], false)).1, right := r } x1, pv { p with es := p.es.drop i } x2, .int .i64 0]) ∧ Vs w' x1 (p.es.take i) ∧ Vs w' x2 (p.es.drop i) ∧ Bel w w' := by
  have q1 : decide (r < 1) = false := decide_eq_false (by omega)
  have q2 : decide (65535 < r) = false := decide_eq_false (by omega)
  have q3 : ¬ r < 1 := by omega
  have q4 : ¬ 65535 < r := by omega
  have hl2 : ¬ (p.es.length : Int) < 2 := by omega
  have hl2' : decide ((p.es.length : Int) < 2) = false := decide_eq_false hl2
  have hes := hs.es
  have hvs : Vs w (.slice (some ⟨b, off, none⟩) p.es.length cap) p.es := .inr ⟨b, off, cap, rfl, hcap, hb, hr⟩
  have HROW : Hid (∀ W, Bel w W → Row3 W b off p.es) := fun W hW => hr.below hW hb
  have HVS := hid hvs
  have I0 := hid (SC.start w #[.int .i64 p.lsn, .int .i64 p.kind, .int .i64 p.level, .int .i64 p.right, .string (M.bs p.high), .slice (some ⟨b, off, none⟩) p.es.length cap])
  clear hvs hr
  go_enter Try.func19, Try.ntmps19
  go_wp2_with fail
  generalize ((w.alloc (.cells #[.int .i64 p.lsn, .int .i64 p.kind, .int .i64 p.level, .int .i64 p.right, .string (M.bs p.high), .slice (some ⟨b, off, none⟩) p.es.length cap] 33)).alloc (.cells noC 33)).alloc (.cells noC 33) = w1 at *
  clear q1 q2 q3 q4 hl2 hl2'
  go_loopw [7] (fun iv wr => ∃ i : Nat, 1 ≤ i ∧ i ≤ p.es.length - 1 ∧ iv = .int .i64 i ∧ Hid (∀ j, 1 ≤ j → j < i → M.szs (p.es.take j) < M.szs (p.es.drop j)) ∧ Hid (SC w wr #[.int .i64 p.lsn, .int .i64 p.kind, .int .i64 p.level, .int .i64 p.right, .string (M.bs p.high), .slice (some ⟨b, off, none⟩) p.es.length cap])) (fun iv _ => p.es.length - (intOf iv).toNat)
  case atStart => exact ⟨1, by omega, by omega, rfl, hid (fun j h1 h2 => by omega), I0⟩
  case round =>
    obtain ⟨i, hi1, hi2, rfl, HJ, HI⟩ := hrel
    obtain ⟨t0, t1, t2, t3, t4, t5⟩ := blk_cells HI.out.b0
    have hw1 : IntKind.i64.wrap ((p.es.length : Int) - 1) = (p.es.length : Int) - 1 := by rw [IntKind.wrap_i64]; omega
    by_cases hlt : i < p.es.length - 1
    · have hii : (i : Int) < (p.es.length : Int) - 1 := by omega
      have hid' : decide ((i : Int) < (p.es.length : Int) - 1) = true := decide_eq_true hii
      clear t0 t1 t2 t3 t4 t5
      go_wp2_with fail
      obtain ⟨a1, n1, c1, cut, VC⟩ := cutV HVS.out i (by omega)
      obtain ⟨a2, n2, c2, rst, VR⟩ := restV HVS.out i (by omega)
      have HVC := hid VC
      have HVR := hid VR
      clear VC VR
      refine wp_last fun KL hKL => ?_
      have HL := hid hKL
      clear hKL
      refine region_until (S := fun W : World => Blk W w.heap.size #[.int .i64 p.lsn, .int .i64 p.kind, .int .i64 p.level, .int .i64 p.right, .string (M.bs p.high), .slice (some ⟨b, off, none⟩) p.es.length cap] 33) (m := 18) (by kernel_rfl) ?_
      have I5 := hid (HI.out.bel (Bel.dr (Below.refl _ _)))
      clear HI
      generalize wr.drew = w5 at *
      have hS := I5.out.b0
      refine take_next (i := 0) (.int .i64 (i : Nat)) [5, 6, 18] (by kernel_rfl) (by kernel_rfl) rfl (by kernel_rfl) (by kernel_rfl) (by kernel_rfl) (by kernel_rfl) (fun _ _ _ h => absurd h.1 (by simp)) (Or.inl ⟨by rfl, fun w' hSw => by go_simp⟩) hS ?_
      try simp only [Act.put]
      refine take_next (i := 1) (.pointer (some ⟨w.heap.size, 5, none⟩)) [2, 3, 4, 5, 6, 18] (by kernel_rfl) (by kernel_rfl) rfl (by kernel_rfl) (by kernel_rfl) (by kernel_rfl) (by kernel_rfl) (fun _ _ _ h => absurd h.1 (by simp)) (Or.inl ⟨by rfl, fun w' hSw => by go_simp⟩) hS ?_
      try simp only [Act.put]
      refine take_next (i := 2) (.slice (some ⟨b, off, none⟩) p.es.length cap) [3, 4, 5, 6, 18] (by kernel_rfl) (by kernel_rfl) rfl (by kernel_rfl) (by kernel_rfl) (by kernel_rfl) (by kernel_rfl) (fun _ _ _ h => absurd h.1 (by simp)) (Or.inl ⟨by rfl, fun w' hSw => by obtain ⟨s0, s1, s2, s3, s4, s5⟩ := blk_cells hSw; go_simp⟩) hS ?_
      try simp only [Act.put]
      refine take_next (i := 3) (.int .i64 (p.es.length : Nat)) [4, 5, 6, 18] (by kernel_rfl) (by kernel_rfl) rfl (by kernel_rfl) (by kernel_rfl) (by kernel_rfl) (by kernel_rfl) (fun _ _ _ h => absurd h.1 (by simp)) (Or.inl ⟨by rfl, fun w' hSw => by go_simp⟩) hS ?_
      try simp only [Act.put]
      refine take_next (i := 4) (.int .i64 ((p.es.length : Int) - 1)) [5, 6, 18] (by kernel_rfl) (by kernel_rfl) rfl (by kernel_rfl) (by kernel_rfl) (by kernel_rfl) (by kernel_rfl) (fun _ _ _ h => absurd h.1 (by simp)) (Or.inl ⟨by rfl, fun w' hSw => by go_simp⟩) hS ?_
      try simp only [Act.put]
      refine until_step (j := 5) (by kernel_rfl) rfl (by kernel_rfl) (fun KX hKX => ?_)
      have HX := hid hKX
      clear hKX
      go_simp
      refine HX.out _ _ ⟨fun _ => hS, ?_⟩
      clear HX
      try simp only [Act.put]
      refine until_step (j := 6) (by kernel_rfl) rfl (by kernel_rfl) (fun KX hKX => ?_)
      have HX := hid hKX
      clear hKX
      go_simp
      refine HX.out _ _ ⟨fun _ => hS, ?_⟩
      clear HX
      try simp only [Act.put]
      refine take_next (i := 7) (.pointer (some ⟨w.heap.size, 5, none⟩)) [8, 10, 11, 17, 18] (by kernel_rfl) (by kernel_rfl) rfl (by kernel_rfl) (by kernel_rfl) (by kernel_rfl) (by kernel_rfl) (fun _ _ _ h => absurd h.1 (by simp)) (Or.inl ⟨by kernel_rfl, fun w' hSw => by go_simp⟩) hS ?_
      try simp only [Act.put]
      refine take_next (i := 8) (.slice (some ⟨b, off, none⟩) p.es.length cap) [10, 11, 17, 18] (by kernel_rfl) (by kernel_rfl) rfl (by kernel_rfl) (by kernel_rfl) (by kernel_rfl) (by kernel_rfl) (fun _ _ _ h => absurd h.1 (by simp)) (Or.inl ⟨by kernel_rfl, fun w' hSw => by obtain ⟨s0, s1, s2, s3, s4, s5⟩ := blk_cells hSw; go_simp⟩) hS ?_
      try simp only [Act.put]
      refine take_next (i := 9) (.int .i64 (i : Nat)) [10, 11, 17, 18] (by kernel_rfl) (by kernel_rfl) rfl (by kernel_rfl) (by kernel_rfl) (by kernel_rfl) (by kernel_rfl) (fun _ _ _ h => absurd h.1 (by simp)) (Or.inl ⟨by kernel_rfl, fun w' hSw => by go_simp⟩) hS ?_
      try simp only [Act.put]
      refine take_next (i := 10) (.slice a1 n1 c1) [11, 17, 18] (by kernel_rfl) (by kernel_rfl) rfl (by kernel_rfl) (by kernel_rfl) (by kernel_rfl) (by kernel_rfl) (fun _ _ _ h => absurd h.1 (by simp)) (Or.inl ⟨by kernel_rfl, fun w' hSw => by go_simp⟩) hS ?_
      try simp only [Act.put]
      refine take_next (i := 12) (.pointer (some ⟨w.heap.size, 5, none⟩)) [13, 15, 16, 17, 18] (by kernel_rfl) (by kernel_rfl) rfl (by kernel_rfl) (by kernel_rfl) (by kernel_rfl) (by kernel_rfl) (fun _ _ _ h => absurd h.1 (by simp)) (Or.inl ⟨by kernel_rfl, fun w' hSw => by go_simp⟩) hS ?_
      try simp only [Act.put]
      refine take_next (i := 13) (.slice (some ⟨b, off, none⟩) p.es.length cap) [15, 16, 17, 18] (by kernel_rfl) (by kernel_rfl) rfl (by kernel_rfl) (by kernel_rfl) (by kernel_rfl) (by kernel_rfl) (fun _ _ _ h => absurd h.1 (by simp)) (Or.inl ⟨by kernel_rfl, fun w' hSw => by obtain ⟨s0, s1, s2, s3, s4, s5⟩ := blk_cells hSw; go_simp⟩) hS ?_
      try simp only [Act.put]
      refine take_next (i := 14) (.int .i64 (i : Nat)) [15, 16, 17, 18] (by kernel_rfl) (by kernel_rfl) rfl (by kernel_rfl) (by kernel_rfl) (by kernel_rfl) (by kernel_rfl) (fun _ _ _ h => absurd h.1 (by simp)) (Or.inl ⟨by kernel_rfl, fun w' hSw => by go_simp⟩) hS ?_
      try simp only [Act.put]
      refine take_next (i := 15) (.slice a2 n2 c2) [16, 17, 18] (by kernel_rfl) (by kernel_rfl) rfl (by kernel_rfl) (by kernel_rfl) (by kernel_rfl) (by kernel_rfl) (fun _ _ _ h => absurd h.1 (by simp)) (Or.inl ⟨by kernel_rfl, fun w' hSw => by go_simp⟩) hS ?_
      try simp only [Act.put]
      refine until_step (j := 11) (by kernel_rfl) rfl (by kernel_rfl) (fun KX hKX => ?_)
      have HX := hid hKX
      clear hKX
      go_simp
      refine (sizes_any (p.es.take i) (.slice a1 n1 c1) w5 (by rw [List.length_take]; omega) (fun e he => hs.each e (List.mem_of_mem_take he)) (HVC.out w5 I5.out.below).vals).mono ?_
      rintro e w6 ⟨rfl, k6⟩
      have I6 := hid (I5.out.bel k6)
      refine HX.out _ _ ⟨fun _ => I6.out.b0, ?_⟩
      clear HX k6 I5 hS
      try simp only [Act.put]
      refine until_step (j := 16) (by kernel_rfl) rfl (by kernel_rfl) (fun KX hKX => ?_)
      have HX := hid hKX
      clear hKX
      go_simp
      refine (sizes_any (p.es.drop i) (.slice a2 n2 c2) w6 (by rw [List.length_drop]; omega) (fun e he => hs.each e (List.mem_of_mem_drop he)) (HVR.out w6 I6.out.below).vals).mono ?_
      rintro e w7 ⟨rfl, k7⟩
      have I7 := hid (I6.out.bel k7)
      have hS := I7.out.b0
      refine HX.out _ _ ⟨fun _ => hS, ?_⟩
      clear HX k7 I6
      try simp only [Act.put]
      by_cases hsz : M.szs (p.es.take i) < M.szs (p.es.drop i)
      · have hsz' : (M.szs (p.es.take i) : Int) < (M.szs (p.es.drop i) : Int) := by omega
        have HJ2 : Hid (∀ j, 1 ≤ j → j < i + 1 → M.szs (p.es.take j) < M.szs (p.es.drop j)) := hid (fun j h1 h2 => by
          by_cases e : j = i
          · rw [e]; exact hsz
          · exact HJ.out j h1 (by omega))
        clear hsz
        refine until_step (j := 17) (by kernel_rfl) rfl (by kernel_rfl) (fun KX hKX => ?_)
        have HX := hid hKX
        clear hKX
        go_simp
        refine HX.out _ _ ⟨fun _ => hS, ?_⟩
        clear HX
        try simp only [Act.put]
        refine until_step (j := 18) (by kernel_rfl) rfl (by kernel_rfl) (fun KX hKX => ?_)
        have HX := hid hKX
        clear hKX
        go_simp
        refine HX.out _ _ ⟨(fun h => by cases (Eq.trans (Eq.symm (show _ = true by kernel_rfl)) h)), ?_⟩
        clear HX
        refine until_done (by kernel_rfl) ⟨rfl, ?_⟩ _
        refine HL.out _ _ ?_
        clear HL hS
        go_wp2_with fail
        go_roundw
        case rel => exact ⟨i + 1, by omega, by omega, by go_num, HJ2, I7⟩
        case measure => simp [intOf]; omega
      · have hsz' : ¬ (M.szs (p.es.take i) : Int) < (M.szs (p.es.drop i) : Int) := by omega
        have HE : Hid (i = p.es.length - 1 ∨ M.szs (p.es.drop i) ≤ M.szs (p.es.take i)) := .inr (by omega)
        clear hsz
        refine until_step (j := 17) (by kernel_rfl) rfl (by kernel_rfl) (fun KX hKX => ?_)
        have HX := hid hKX
        clear hKX
        go_simp
        refine HX.out _ _ ⟨fun _ => hS, ?_⟩
        clear HX
        try simp only [Act.put]
        refine until_step (j := 18) (by kernel_rfl) rfl (by kernel_rfl) (fun KX hKX => ?_)
        have HX := hid hKX
        clear hKX
        go_simp
        refine HX.out _ _ ⟨(fun h => by cases (Eq.trans (Eq.symm (show _ = true by kernel_rfl)) h)), ?_⟩
        clear HX
        refine until_done (by kernel_rfl) ⟨rfl, ?_⟩ _
        refine HL.out _ _ ?_
        clear HL hS
        go_wp2_with fail
        have HI2 := I7
        clear I7 hsz' hii hid' hlt hw1 cut rst HVC HVR
        generalize w7 = w2 at *
        obtain ⟨a1, n1, c1, cut, VC⟩ := cutV HVS.out i (by omega)
        obtain ⟨a2, n2, c2, rst, VR⟩ := restV HVS.out i (by omega)
        have HVC := hid VC
        have HVR := hid VR
        clear VC VR
        have hin : i < p.es.length := by omega
        refine wp_last fun KL hKL => ?_
        have HL := hid hKL
        clear hKL
        refine wp_join2 (fun g8 g9 a => ((((((((((((((a.put (some 45) (.agg #[.int .i64 p.lsn, .int .i64 p.kind, .int .i64 p.level, .int .i64 p.right, .string (M.bs p.high), .slice (some ⟨b, off, none⟩) p.es.length cap])).put (some 46) (.pointer (some ⟨w.heap.size, 5, none⟩))).put (some 47) (.slice (some ⟨b, off, none⟩) p.es.length cap)).put (some 48) (.int .i64 (i : Nat))).put (some 49) (.slice a1 n1 c1)).put (some 50) (.agg #[.int .i64 p.lsn, .int .i64 p.kind, .int .i64 p.level, .int .i64 p.right, .string (M.bs p.high), .slice a1 n1 c1])).put (some 51) (.agg #[.int .i64 p.lsn, .int .i64 p.kind, .int .i64 p.level, .int .i64 p.right, .string (M.bs p.high), .slice (some ⟨b, off, none⟩) p.es.length cap])).put (some 52) (.pointer (some ⟨w.heap.size, 5, none⟩))).put (some 53) (.slice (some ⟨b, off, none⟩) p.es.length cap)).put (some 54) (.int .i64 (i : Nat))).put (some 55) (.slice a2 n2 c2)).put (some 56) (.agg #[.int .i64 p.lsn, .int .i64 p.kind, .int .i64 p.level, .int .i64 p.right, .string (M.bs p.high), .slice a2 n2 c2])).put (some 8) (.pointer (some ⟨g8, 0, none⟩))).put (some 9) (.pointer (some ⟨g9, 0, none⟩)))) (fun g8 g9 W => g8 ≠ g9 ∧ w.heap.size + 1 + 1 < g8 ∧ w.heap.size + 1 + 1 < g9 ∧ Blk W g8 #[.int .i64 p.lsn, .int .i64 p.kind, .int .i64 p.level, .int .i64 p.right, .string (M.bs p.high), .slice a1 n1 c1] 33 ∧ Blk W g9 #[.int .i64 p.lsn, .int .i64 p.kind, .int .i64 p.level, .int .i64 p.right, .string (M.bs p.high), .slice a2 n2 c2] 33 ∧ SC w W #[.int .i64 p.lsn, .int .i64 p.kind, .int .i64 p.level, .int .i64 p.right, .string (M.bs p.high), .slice (some ⟨b, off, none⟩) p.es.length cap]) ?_ ?_
        · refine region_until (S := fun W : World => Blk W w.heap.size #[.int .i64 p.lsn, .int .i64 p.kind, .int .i64 p.level, .int .i64 p.right, .string (M.bs p.high), .slice (some ⟨b, off, none⟩) p.es.length cap] 33) (m := 11) (by kernel_rfl) ?_
          have I5 := hid (HI2.out.bel (Bel.dr (Below.refl _ _)))
          generalize w2.drew = w5 at *
          have hS := I5.out.b0
          refine take_next (i := 0) (.agg #[.int .i64 p.lsn, .int .i64 p.kind, .int .i64 p.level, .int .i64 p.right, .string (M.bs p.high), .slice (some ⟨b, off, none⟩) p.es.length cap]) [5, 11] (by kernel_rfl) (by kernel_rfl) rfl (by kernel_rfl) (by kernel_rfl) (by kernel_rfl) (by kernel_rfl) (fun _ _ _ h => absurd h.1 (by simp)) (Or.inl ⟨by rfl, fun w' hSw => by obtain ⟨s0, s1, s2, s3, s4, s5⟩ := blk_cells hSw; go_simp⟩) hS ?_
          try simp only [Act.put]
          refine take_next (i := 1) (.pointer (some ⟨w.heap.size, 5, none⟩)) [2, 4, 5, 11] (by kernel_rfl) (by kernel_rfl) rfl (by kernel_rfl) (by kernel_rfl) (by kernel_rfl) (by kernel_rfl) (fun _ _ _ h => absurd h.1 (by simp)) (Or.inl ⟨by rfl, fun w' hSw => by go_simp⟩) hS ?_
          try simp only [Act.put]
          refine take_next (i := 2) (.slice (some ⟨b, off, none⟩) p.es.length cap) [4, 5, 11] (by kernel_rfl) (by kernel_rfl) rfl (by kernel_rfl) (by kernel_rfl) (by kernel_rfl) (by kernel_rfl) (fun _ _ _ h => absurd h.1 (by simp)) (Or.inl ⟨by rfl, fun w' hSw => by obtain ⟨s0, s1, s2, s3, s4, s5⟩ := blk_cells hSw; go_simp⟩) hS ?_
          try simp only [Act.put]
          refine take_next (i := 3) (.int .i64 (i : Nat)) [4, 5, 11] (by kernel_rfl) (by kernel_rfl) rfl (by kernel_rfl) (by kernel_rfl) (by kernel_rfl) (by kernel_rfl) (fun _ _ _ h => absurd h.1 (by simp)) (Or.inl ⟨by rfl, fun w' hSw => by go_simp⟩) hS ?_
          try simp only [Act.put]
          refine take_next (i := 4) (.slice a1 n1 c1) [5, 11] (by kernel_rfl) (by kernel_rfl) rfl (by kernel_rfl) (by kernel_rfl) (by kernel_rfl) (by kernel_rfl) (fun _ _ _ h => absurd h.1 (by simp)) (Or.inl ⟨by rfl, fun w' hSw => by go_simp⟩) hS ?_
          try simp only [Act.put]
          refine take_next (i := 6) (.agg #[.int .i64 p.lsn, .int .i64 p.kind, .int .i64 p.level, .int .i64 p.right, .string (M.bs p.high), .slice (some ⟨b, off, none⟩) p.es.length cap]) [11] (by kernel_rfl) (by kernel_rfl) rfl (by kernel_rfl) (by kernel_rfl) (by kernel_rfl) (by kernel_rfl) (fun _ _ _ h => absurd h.1 (by simp)) (Or.inl ⟨by rfl, fun w' hSw => by obtain ⟨s0, s1, s2, s3, s4, s5⟩ := blk_cells hSw; go_simp⟩) hS ?_
          try simp only [Act.put]
          refine take_next (i := 7) (.pointer (some ⟨w.heap.size, 5, none⟩)) [8, 10, 11] (by kernel_rfl) (by kernel_rfl) rfl (by kernel_rfl) (by kernel_rfl) (by kernel_rfl) (by kernel_rfl) (fun _ _ _ h => absurd h.1 (by simp)) (Or.inl ⟨by rfl, fun w' hSw => by go_simp⟩) hS ?_
          try simp only [Act.put]
          refine take_next (i := 8) (.slice (some ⟨b, off, none⟩) p.es.length cap) [10, 11] (by kernel_rfl) (by kernel_rfl) rfl (by kernel_rfl) (by kernel_rfl) (by kernel_rfl) (by kernel_rfl) (fun _ _ _ h => absurd h.1 (by simp)) (Or.inl ⟨by rfl, fun w' hSw => by obtain ⟨s0, s1, s2, s3, s4, s5⟩ := blk_cells hSw; go_simp⟩) hS ?_
          try simp only [Act.put]
          refine take_next (i := 9) (.int .i64 (i : Nat)) [10, 11] (by kernel_rfl) (by kernel_rfl) rfl (by kernel_rfl) (by kernel_rfl) (by kernel_rfl) (by kernel_rfl) (fun _ _ _ h => absurd h.1 (by simp)) (Or.inl ⟨by rfl, fun w' hSw => by go_simp⟩) hS ?_
          try simp only [Act.put]
          refine take_next (i := 10) (.slice a2 n2 c2) [11] (by kernel_rfl) (by kernel_rfl) rfl (by kernel_rfl) (by kernel_rfl) (by kernel_rfl) (by kernel_rfl) (fun _ _ _ h => absurd h.1 (by simp)) (Or.inl ⟨by rfl, fun w' hSw => by go_simp⟩) hS ?_
          try simp only [Act.put]
          clear hS
          have I := I5
          clear I5
          refine until_ready (rs := [5, 12, 13]) (by kernel_rfl) (by simp) ?_
          intro jj hjj
          simp only [List.mem_cons, List.not_mem_nil, or_false] at hjj
          rcases hjj with rfl | rfl | rfl
          · skip
            refine wpOp_step rfl (fun KX hKX => ?_)
            have HX := hid hKX
            clear hKX
            go_simp
            refine (with_any p (some ⟨b, off, none⟩) p.es.length cap a1 n1 c1 w5).mono ?_
            rintro e w21 ⟨rfl, kk⟩
            have Ix := hid (I.out.bel kk)
            refine HX.out _ _ ⟨fun _ => Ix.out.b0, ?_⟩
            clear HX kk I 
            have I := Ix
            clear Ix
            try simp only [Act.put]
            refine until_ready (rs := [11, 12, 13]) (by kernel_rfl) (by simp) ?_
            intro jj hjj
            simp only [List.mem_cons, List.not_mem_nil, or_false] at hjj
            rcases hjj with rfl | rfl | rfl
            · skip
              refine wpOp_step rfl (fun KX hKX => ?_)
              have HX := hid hKX
              clear hKX
              go_simp
              refine (with_any p (some ⟨b, off, none⟩) p.es.length cap a2 n2 c2 w21).mono ?_
              rintro e w22 ⟨rfl, kk⟩
              have Ix := hid (I.out.bel kk)
              refine HX.out _ _ ⟨fun _ => Ix.out.b0, ?_⟩
              clear HX kk I 
              have I := Ix
              clear Ix
              try simp only [Act.put]
              refine until_ready (rs := [12, 13]) (by kernel_rfl) (by simp) ?_
              intro jj hjj
              simp only [List.mem_cons, List.not_mem_nil, or_false] at hjj
              rcases hjj with rfl | rfl
              · skip
                refine wpOp_step rfl (fun KX hKX => ?_)
                have HX := hid hKX
                clear hKX
                go_simp
                have kk : Bel w22 (w22.alloc (.cells #[.int .i64 0, .int .i64 0, .int .i64 0, .int .i64 0, .string ⟨#[]⟩, .slice none 0 0] 33)) := Bel.al (Below.refl _ _) _
                obtain ⟨g8, hg8⟩ : ∃ g, g = w22.heap.size := ⟨_, rfl⟩
                have Zg8 := I.out.b2.lt
                rw [← hg8] at Zg8
                have N8 : Hid (Blk (w22.alloc (.cells #[.int .i64 0, .int .i64 0, .int .i64 0, .int .i64 0, .string ⟨#[]⟩, .slice none 0 0] 33)) g8 #[.int .i64 0, .int .i64 0, .int .i64 0, .int .i64 0, .string ⟨#[]⟩, .slice none 0 0] 33) := by rw [hg8]; exact Blk.new _ _ _
                have Ix := hid (I.out.bel kk)
                refine HX.out _ _ ⟨fun _ => Ix.out.b0, ?_⟩
                rw [← hg8]
                clear HX kk I hg8 
                have I := Ix
                clear Ix
                generalize w22.alloc (.cells #[.int .i64 0, .int .i64 0, .int .i64 0, .int .i64 0, .string ⟨#[]⟩, .slice none 0 0] 33) = w23 at *
                try simp only [Act.put]
                refine until_step (j := 13) (by kernel_rfl) rfl (by kernel_rfl) (fun KX hKX => ?_)
                have HX := hid hKX
                clear hKX
                go_simp
                have kk : Bel w23 (w23.alloc (.cells #[.int .i64 0, .int .i64 0, .int .i64 0, .int .i64 0, .string ⟨#[]⟩, .slice none 0 0] 33)) := Bel.al (Below.refl _ _) _
                obtain ⟨g9, hg9⟩ : ∃ g, g = w23.heap.size := ⟨_, rfl⟩
                have Zg9 := I.out.b2.lt
                rw [← hg9] at Zg9
                have N9 : Hid (Blk (w23.alloc (.cells #[.int .i64 0, .int .i64 0, .int .i64 0, .int .i64 0, .string ⟨#[]⟩, .slice none 0 0] 33)) g9 #[.int .i64 0, .int .i64 0, .int .i64 0, .int .i64 0, .string ⟨#[]⟩, .slice none 0 0] 33) := by rw [hg9]; exact Blk.new _ _ _
                have Ix := hid (I.out.bel kk)
                have N8x := hid (N8.out.below kk N8.out.lt)
                have hneN8 := N8.out.lt
                rw [← hg9] at hneN8
                refine HX.out _ _ ⟨fun _ => Ix.out.b0, ?_⟩
                rw [← hg9]
                clear HX kk I hg9 N8
                have I := Ix
                clear Ix
                have N8 := N8x
                clear N8x
                generalize w23.alloc (.cells #[.int .i64 0, .int .i64 0, .int .i64 0, .int .i64 0, .string ⟨#[]⟩, .slice none 0 0] 33) = w24 at *
                try simp only [Act.put]
                obtain ⟨d0, d1, d2, d3, d4, d5⟩ := blk_cells N8.out
                have f0 := N8.out.frozen 0
                have f1 := N8.out.frozen 1
                have f2 := N8.out.frozen 2
                have f3 := N8.out.frozen 3
                have f4 := N8.out.frozen 4
                have f5 := N8.out.frozen 5
                refine until_step (j := 14) (by kernel_rfl) rfl (by kernel_rfl) (fun KX hKX => ?_)
                have HX := hid hKX
                clear hKX
                go_simp
                have N8x := hid (set6 N8.out (.int .i64 p.lsn) (.int .i64 p.kind) (.int .i64 p.level) (.int .i64 p.right) (.string (M.bs p.high)) (.slice a1 n1 c1))
                have N9x := hid (other6 N9.out (show g9 ≠ g8 by omega) (.int .i64 p.lsn) (.int .i64 p.kind) (.int .i64 p.level) (.int .i64 p.right) (.string (M.bs p.high)) (.slice a1 n1 c1))
                have Ix := hid (SC.mk (other6 I.out.b0 (show w.heap.size ≠ g8 by omega) (.int .i64 p.lsn) (.int .i64 p.kind) (.int .i64 p.level) (.int .i64 p.right) (.string (M.bs p.high)) (.slice a1 n1 c1)) (other6 I.out.b1 (show w.heap.size + 1 ≠ g8 by omega) (.int .i64 p.lsn) (.int .i64 p.kind) (.int .i64 p.level) (.int .i64 p.right) (.string (M.bs p.high)) (.slice a1 n1 c1)) (other6 I.out.b2 (show w.heap.size + 1 + 1 ≠ g8 by omega) (.int .i64 p.lsn) (.int .i64 p.kind) (.int .i64 p.level) (.int .i64 p.right) (.string (M.bs p.high)) (.slice a1 n1 c1)) (bel6 I.out.below (show w.heap.size ≤ g8 by omega) (.int .i64 p.lsn) (.int .i64 p.kind) (.int .i64 p.level) (.int .i64 p.right) (.string (M.bs p.high)) (.slice a1 n1 c1)))
                refine HX.out _ _ ⟨(fun h => by cases (Eq.trans (Eq.symm (show _ = true by kernel_rfl)) h)), ?_⟩
                clear HX d0 d1 d2 d3 d4 d5 f0 f1 f2 f3 f4 f5 I N8 N9
                generalize ((((((w24.setCell ⟨g8, 0, none⟩ (.int .i64 p.lsn)).setCell ⟨g8, 1, none⟩ (.int .i64 p.kind)).setCell ⟨g8, 2, none⟩ (.int .i64 p.level)).setCell ⟨g8, 3, none⟩ (.int .i64 p.right)).setCell ⟨g8, 4, none⟩ (.string (M.bs p.high))).setCell ⟨g8, 5, none⟩ (.slice a1 n1 c1)) = w25 at *
                have I := Ix
                have N8 := N8x
                have N9 := N9x
                clear Ix N8x N9x
                try simp only [Act.put]
                obtain ⟨d0, d1, d2, d3, d4, d5⟩ := blk_cells N9.out
                have f0 := N9.out.frozen 0
                have f1 := N9.out.frozen 1
                have f2 := N9.out.frozen 2
                have f3 := N9.out.frozen 3
                have f4 := N9.out.frozen 4
                have f5 := N9.out.frozen 5
                refine until_step (j := 15) (by kernel_rfl) rfl (by kernel_rfl) (fun KX hKX => ?_)
                have HX := hid hKX
                clear hKX
                go_simp
                have N9x := hid (set6 N9.out (.int .i64 p.lsn) (.int .i64 p.kind) (.int .i64 p.level) (.int .i64 p.right) (.string (M.bs p.high)) (.slice a2 n2 c2))
                have N8x := hid (other6 N8.out (show g8 ≠ g9 by omega) (.int .i64 p.lsn) (.int .i64 p.kind) (.int .i64 p.level) (.int .i64 p.right) (.string (M.bs p.high)) (.slice a2 n2 c2))
                have Ix := hid (SC.mk (other6 I.out.b0 (show w.heap.size ≠ g9 by omega) (.int .i64 p.lsn) (.int .i64 p.kind) (.int .i64 p.level) (.int .i64 p.right) (.string (M.bs p.high)) (.slice a2 n2 c2)) (other6 I.out.b1 (show w.heap.size + 1 ≠ g9 by omega) (.int .i64 p.lsn) (.int .i64 p.kind) (.int .i64 p.level) (.int .i64 p.right) (.string (M.bs p.high)) (.slice a2 n2 c2)) (other6 I.out.b2 (show w.heap.size + 1 + 1 ≠ g9 by omega) (.int .i64 p.lsn) (.int .i64 p.kind) (.int .i64 p.level) (.int .i64 p.right) (.string (M.bs p.high)) (.slice a2 n2 c2)) (bel6 I.out.below (show w.heap.size ≤ g9 by omega) (.int .i64 p.lsn) (.int .i64 p.kind) (.int .i64 p.level) (.int .i64 p.right) (.string (M.bs p.high)) (.slice a2 n2 c2)))
                refine HX.out _ _ ⟨(fun h => by cases (Eq.trans (Eq.symm (show _ = true by kernel_rfl)) h)), ?_⟩
                clear HX d0 d1 d2 d3 d4 d5 f0 f1 f2 f3 f4 f5 I N9 N8
                generalize ((((((w25.setCell ⟨g9, 0, none⟩ (.int .i64 p.lsn)).setCell ⟨g9, 1, none⟩ (.int .i64 p.kind)).setCell ⟨g9, 2, none⟩ (.int .i64 p.level)).setCell ⟨g9, 3, none⟩ (.int .i64 p.right)).setCell ⟨g9, 4, none⟩ (.string (M.bs p.high))).setCell ⟨g9, 5, none⟩ (.slice a2 n2 c2)) = w26 at *
                have I := Ix
                have N9 := N9x
                have N8 := N8x
                clear Ix N9x N8x
                refine until_done (by kernel_rfl) ⟨rfl, g8, g9, ?_, by omega, by omega, by omega, N8.out, N9.out, I.out⟩ _
                kernel_rfl
              · skip
                refine wpOp_step rfl (fun KX hKX => ?_)
                have HX := hid hKX
                clear hKX
                go_simp
                have kk : Bel w22 (w22.alloc (.cells #[.int .i64 0, .int .i64 0, .int .i64 0, .int .i64 0, .string ⟨#[]⟩, .slice none 0 0] 33)) := Bel.al (Below.refl _ _) _
                obtain ⟨g9, hg9⟩ : ∃ g, g = w22.heap.size := ⟨_, rfl⟩
                have Zg9 := I.out.b2.lt
                rw [← hg9] at Zg9
                have N9 : Hid (Blk (w22.alloc (.cells #[.int .i64 0, .int .i64 0, .int .i64 0, .int .i64 0, .string ⟨#[]⟩, .slice none 0 0] 33)) g9 #[.int .i64 0, .int .i64 0, .int .i64 0, .int .i64 0, .string ⟨#[]⟩, .slice none 0 0] 33) := by rw [hg9]; exact Blk.new _ _ _
                have Ix := hid (I.out.bel kk)
                refine HX.out _ _ ⟨fun _ => Ix.out.b0, ?_⟩
                rw [← hg9]
                clear HX kk I hg9 
                have I := Ix
                clear Ix
                generalize w22.alloc (.cells #[.int .i64 0, .int .i64 0, .int .i64 0, .int .i64 0, .string ⟨#[]⟩, .slice none 0 0] 33) = w23 at *
                try simp only [Act.put]
                refine until_step (j := 12) (by kernel_rfl) rfl (by kernel_rfl) (fun KX hKX => ?_)
                have HX := hid hKX
                clear hKX
                go_simp
                have kk : Bel w23 (w23.alloc (.cells #[.int .i64 0, .int .i64 0, .int .i64 0, .int .i64 0, .string ⟨#[]⟩, .slice none 0 0] 33)) := Bel.al (Below.refl _ _) _
                obtain ⟨g8, hg8⟩ : ∃ g, g = w23.heap.size := ⟨_, rfl⟩
                have Zg8 := I.out.b2.lt
                rw [← hg8] at Zg8
                have N8 : Hid (Blk (w23.alloc (.cells #[.int .i64 0, .int .i64 0, .int .i64 0, .int .i64 0, .string ⟨#[]⟩, .slice none 0 0] 33)) g8 #[.int .i64 0, .int .i64 0, .int .i64 0, .int .i64 0, .string ⟨#[]⟩, .slice none 0 0] 33) := by rw [hg8]; exact Blk.new _ _ _
                have Ix := hid (I.out.bel kk)
                have N9x := hid (N9.out.below kk N9.out.lt)
                have hneN9 := N9.out.lt
                rw [← hg8] at hneN9
                refine HX.out _ _ ⟨fun _ => Ix.out.b0, ?_⟩
                rw [← hg8]
                clear HX kk I hg8 N9
                have I := Ix
                clear Ix
                have N9 := N9x
                clear N9x
                generalize w23.alloc (.cells #[.int .i64 0, .int .i64 0, .int .i64 0, .int .i64 0, .string ⟨#[]⟩, .slice none 0 0] 33) = w24 at *
                try simp only [Act.put]
                obtain ⟨d0, d1, d2, d3, d4, d5⟩ := blk_cells N8.out
                have f0 := N8.out.frozen 0
                have f1 := N8.out.frozen 1
                have f2 := N8.out.frozen 2
                have f3 := N8.out.frozen 3
                have f4 := N8.out.frozen 4
                have f5 := N8.out.frozen 5
                refine until_step (j := 14) (by kernel_rfl) rfl (by kernel_rfl) (fun KX hKX => ?_)
                have HX := hid hKX
                clear hKX
                go_simp
                have N8x := hid (set6 N8.out (.int .i64 p.lsn) (.int .i64 p.kind) (.int .i64 p.level) (.int .i64 p.right) (.string (M.bs p.high)) (.slice a1 n1 c1))
                have N9x := hid (other6 N9.out (show g9 ≠ g8 by omega) (.int .i64 p.lsn) (.int .i64 p.kind) (.int .i64 p.level) (.int .i64 p.right) (.string (M.bs p.high)) (.slice a1 n1 c1))
                have Ix := hid (SC.mk (other6 I.out.b0 (show w.heap.size ≠ g8 by omega) (.int .i64 p.lsn) (.int .i64 p.kind) (.int .i64 p.level) (.int .i64 p.right) (.string (M.bs p.high)) (.slice a1 n1 c1)) (other6 I.out.b1 (show w.heap.size + 1 ≠ g8 by omega) (.int .i64 p.lsn) (.int .i64 p.kind) (.int .i64 p.level) (.int .i64 p.right) (.string (M.bs p.high)) (.slice a1 n1 c1)) (other6 I.out.b2 (show w.heap.size + 1 + 1 ≠ g8 by omega) (.int .i64 p.lsn) (.int .i64 p.kind) (.int .i64 p.level) (.int .i64 p.right) (.string (M.bs p.high)) (.slice a1 n1 c1)) (bel6 I.out.below (show w.heap.size ≤ g8 by omega) (.int .i64 p.lsn) (.int .i64 p.kind) (.int .i64 p.level) (.int .i64 p.right) (.string (M.bs p.high)) (.slice a1 n1 c1)))
                refine HX.out _ _ ⟨(fun h => by cases (Eq.trans (Eq.symm (show _ = true by kernel_rfl)) h)), ?_⟩
                clear HX d0 d1 d2 d3 d4 d5 f0 f1 f2 f3 f4 f5 I N8 N9
                generalize ((((((w24.setCell ⟨g8, 0, none⟩ (.int .i64 p.lsn)).setCell ⟨g8, 1, none⟩ (.int .i64 p.kind)).setCell ⟨g8, 2, none⟩ (.int .i64 p.level)).setCell ⟨g8, 3, none⟩ (.int .i64 p.right)).setCell ⟨g8, 4, none⟩ (.string (M.bs p.high))).setCell ⟨g8, 5, none⟩ (.slice a1 n1 c1)) = w25 at *
                have I := Ix
                have N8 := N8x
                have N9 := N9x
                clear Ix N8x N9x
                try simp only [Act.put]
                obtain ⟨d0, d1, d2, d3, d4, d5⟩ := blk_cells N9.out
                have f0 := N9.out.frozen 0
                have f1 := N9.out.frozen 1
                have f2 := N9.out.frozen 2
                have f3 := N9.out.frozen 3
                have f4 := N9.out.frozen 4
                have f5 := N9.out.frozen 5
                refine until_step (j := 15) (by kernel_rfl) rfl (by kernel_rfl) (fun KX hKX => ?_)
                have HX := hid hKX
                clear hKX
                go_simp
                have N9x := hid (set6 N9.out (.int .i64 p.lsn) (.int .i64 p.kind) (.int .i64 p.level) (.int .i64 p.right) (.string (M.bs p.high)) (.slice a2 n2 c2))
                have N8x := hid (other6 N8.out (show g8 ≠ g9 by omega) (.int .i64 p.lsn) (.int .i64 p.kind) (.int .i64 p.level) (.int .i64 p.right) (.string (M.bs p.high)) (.slice a2 n2 c2))
                have Ix := hid (SC.mk (other6 I.out.b0 (show w.heap.size ≠ g9 by omega) (.int .i64 p.lsn) (.int .i64 p.kind) (.int .i64 p.level) (.int .i64 p.right) (.string (M.bs p.high)) (.slice a2 n2 c2)) (other6 I.out.b1 (show w.heap.size + 1 ≠ g9 by omega) (.int .i64 p.lsn) (.int .i64 p.kind) (.int .i64 p.level) (.int .i64 p.right) (.string (M.bs p.high)) (.slice a2 n2 c2)) (other6 I.out.b2 (show w.heap.size + 1 + 1 ≠ g9 by omega) (.int .i64 p.lsn) (.int .i64 p.kind) (.int .i64 p.level) (.int .i64 p.right) (.string (M.bs p.high)) (.slice a2 n2 c2)) (bel6 I.out.below (show w.heap.size ≤ g9 by omega) (.int .i64 p.lsn) (.int .i64 p.kind) (.int .i64 p.level) (.int .i64 p.right) (.string (M.bs p.high)) (.slice a2 n2 c2)))
                refine HX.out _ _ ⟨(fun h => by cases (Eq.trans (Eq.symm (show _ = true by kernel_rfl)) h)), ?_⟩
                clear HX d0 d1 d2 d3 d4 d5 f0 f1 f2 f3 f4 f5 I N9 N8
                generalize ((((((w25.setCell ⟨g9, 0, none⟩ (.int .i64 p.lsn)).setCell ⟨g9, 1, none⟩ (.int .i64 p.kind)).setCell ⟨g9, 2, none⟩ (.int .i64 p.level)).setCell ⟨g9, 3, none⟩ (.int .i64 p.right)).setCell ⟨g9, 4, none⟩ (.string (M.bs p.high))).setCell ⟨g9, 5, none⟩ (.slice a2 n2 c2)) = w26 at *
                have I := Ix
                have N9 := N9x
                have N8 := N8x
                clear Ix N9x N8x
                refine until_done (by kernel_rfl) ⟨rfl, g8, g9, ?_, by omega, by omega, by omega, N8.out, N9.out, I.out⟩ _
                kernel_rfl
            · skip
              refine wpOp_step rfl (fun KX hKX => ?_)
              have HX := hid hKX
              clear hKX
              go_simp
              have kk : Bel w21 (w21.alloc (.cells #[.int .i64 0, .int .i64 0, .int .i64 0, .int .i64 0, .string ⟨#[]⟩, .slice none 0 0] 33)) := Bel.al (Below.refl _ _) _
              obtain ⟨g8, hg8⟩ : ∃ g, g = w21.heap.size := ⟨_, rfl⟩
              have Zg8 := I.out.b2.lt
              rw [← hg8] at Zg8
              have N8 : Hid (Blk (w21.alloc (.cells #[.int .i64 0, .int .i64 0, .int .i64 0, .int .i64 0, .string ⟨#[]⟩, .slice none 0 0] 33)) g8 #[.int .i64 0, .int .i64 0, .int .i64 0, .int .i64 0, .string ⟨#[]⟩, .slice none 0 0] 33) := by rw [hg8]; exact Blk.new _ _ _
              have Ix := hid (I.out.bel kk)
              refine HX.out _ _ ⟨fun _ => Ix.out.b0, ?_⟩
              rw [← hg8]
              clear HX kk I hg8 
              have I := Ix
              clear Ix
              generalize w21.alloc (.cells #[.int .i64 0, .int .i64 0, .int .i64 0, .int .i64 0, .string ⟨#[]⟩, .slice none 0 0] 33) = w22 at *
              try simp only [Act.put]
              refine until_ready (rs := [11, 13]) (by kernel_rfl) (by simp) ?_
              intro jj hjj
              simp only [List.mem_cons, List.not_mem_nil, or_false] at hjj
              rcases hjj with rfl | rfl
              · skip
                refine wpOp_step rfl (fun KX hKX => ?_)
                have HX := hid hKX
                clear hKX
                go_simp
                refine (with_any p (some ⟨b, off, none⟩) p.es.length cap a2 n2 c2 w22).mono ?_
                rintro e w23 ⟨rfl, kk⟩
                have Ix := hid (I.out.bel kk)
                have N8x := hid (N8.out.below kk N8.out.lt)
                refine HX.out _ _ ⟨fun _ => Ix.out.b0, ?_⟩
                clear HX kk I N8
                have I := Ix
                clear Ix
                have N8 := N8x
                clear N8x
                try simp only [Act.put]
                refine until_step (j := 13) (by kernel_rfl) rfl (by kernel_rfl) (fun KX hKX => ?_)
                have HX := hid hKX
                clear hKX
                go_simp
                have kk : Bel w23 (w23.alloc (.cells #[.int .i64 0, .int .i64 0, .int .i64 0, .int .i64 0, .string ⟨#[]⟩, .slice none 0 0] 33)) := Bel.al (Below.refl _ _) _
                obtain ⟨g9, hg9⟩ : ∃ g, g = w23.heap.size := ⟨_, rfl⟩
                have Zg9 := I.out.b2.lt
                rw [← hg9] at Zg9
                have N9 : Hid (Blk (w23.alloc (.cells #[.int .i64 0, .int .i64 0, .int .i64 0, .int .i64 0, .string ⟨#[]⟩, .slice none 0 0] 33)) g9 #[.int .i64 0, .int .i64 0, .int .i64 0, .int .i64 0, .string ⟨#[]⟩, .slice none 0 0] 33) := by rw [hg9]; exact Blk.new _ _ _
                have Ix := hid (I.out.bel kk)
                have N8x := hid (N8.out.below kk N8.out.lt)
                have hneN8 := N8.out.lt
                rw [← hg9] at hneN8
                refine HX.out _ _ ⟨fun _ => Ix.out.b0, ?_⟩
                rw [← hg9]
                clear HX kk I hg9 N8
                have I := Ix
                clear Ix
                have N8 := N8x
                clear N8x
                generalize w23.alloc (.cells #[.int .i64 0, .int .i64 0, .int .i64 0, .int .i64 0, .string ⟨#[]⟩, .slice none 0 0] 33) = w24 at *
                try simp only [Act.put]
                obtain ⟨d0, d1, d2, d3, d4, d5⟩ := blk_cells N8.out
                have f0 := N8.out.frozen 0
                have f1 := N8.out.frozen 1
                have f2 := N8.out.frozen 2
                have f3 := N8.out.frozen 3
                have f4 := N8.out.frozen 4
                have f5 := N8.out.frozen 5
                refine until_step (j := 14) (by kernel_rfl) rfl (by kernel_rfl) (fun KX hKX => ?_)
                have HX := hid hKX
                clear hKX
                go_simp
                have N8x := hid (set6 N8.out (.int .i64 p.lsn) (.int .i64 p.kind) (.int .i64 p.level) (.int .i64 p.right) (.string (M.bs p.high)) (.slice a1 n1 c1))
                have N9x := hid (other6 N9.out (show g9 ≠ g8 by omega) (.int .i64 p.lsn) (.int .i64 p.kind) (.int .i64 p.level) (.int .i64 p.right) (.string (M.bs p.high)) (.slice a1 n1 c1))
                have Ix := hid (SC.mk (other6 I.out.b0 (show w.heap.size ≠ g8 by omega) (.int .i64 p.lsn) (.int .i64 p.kind) (.int .i64 p.level) (.int .i64 p.right) (.string (M.bs p.high)) (.slice a1 n1 c1)) (other6 I.out.b1 (show w.heap.size + 1 ≠ g8 by omega) (.int .i64 p.lsn) (.int .i64 p.kind) (.int .i64 p.level) (.int .i64 p.right) (.string (M.bs p.high)) (.slice a1 n1 c1)) (other6 I.out.b2 (show w.heap.size + 1 + 1 ≠ g8 by omega) (.int .i64 p.lsn) (.int .i64 p.kind) (.int .i64 p.level) (.int .i64 p.right) (.string (M.bs p.high)) (.slice a1 n1 c1)) (bel6 I.out.below (show w.heap.size ≤ g8 by omega) (.int .i64 p.lsn) (.int .i64 p.kind) (.int .i64 p.level) (.int .i64 p.right) (.string (M.bs p.high)) (.slice a1 n1 c1)))
                refine HX.out _ _ ⟨(fun h => by cases (Eq.trans (Eq.symm (show _ = true by kernel_rfl)) h)), ?_⟩
                clear HX d0 d1 d2 d3 d4 d5 f0 f1 f2 f3 f4 f5 I N8 N9
                generalize ((((((w24.setCell ⟨g8, 0, none⟩ (.int .i64 p.lsn)).setCell ⟨g8, 1, none⟩ (.int .i64 p.kind)).setCell ⟨g8, 2, none⟩ (.int .i64 p.level)).setCell ⟨g8, 3, none⟩ (.int .i64 p.right)).setCell ⟨g8, 4, none⟩ (.string (M.bs p.high))).setCell ⟨g8, 5, none⟩ (.slice a1 n1 c1)) = w25 at *
                have I := Ix
                have N8 := N8x
                have N9 := N9x
                clear Ix N8x N9x
                try simp only [Act.put]
                obtain ⟨d0, d1, d2, d3, d4, d5⟩ := blk_cells N9.out
                have f0 := N9.out.frozen 0
                have f1 := N9.out.frozen 1
                have f2 := N9.out.frozen 2
                have f3 := N9.out.frozen 3
                have f4 := N9.out.frozen 4
                have f5 := N9.out.frozen 5
                refine until_step (j := 15) (by kernel_rfl) rfl (by kernel_rfl) (fun KX hKX => ?_)
                have HX := hid hKX
                clear hKX
                go_simp
                have N9x := hid (set6 N9.out (.int .i64 p.lsn) (.int .i64 p.kind) (.int .i64 p.level) (.int .i64 p.right) (.string (M.bs p.high)) (.slice a2 n2 c2))
                have N8x := hid (other6 N8.out (show g8 ≠ g9 by omega) (.int .i64 p.lsn) (.int .i64 p.kind) (.int .i64 p.level) (.int .i64 p.right) (.string (M.bs p.high)) (.slice a2 n2 c2))
                have Ix := hid (SC.mk (other6 I.out.b0 (show w.heap.size ≠ g9 by omega) (.int .i64 p.lsn) (.int .i64 p.kind) (.int .i64 p.level) (.int .i64 p.right) (.string (M.bs p.high)) (.slice a2 n2 c2)) (other6 I.out.b1 (show w.heap.size + 1 ≠ g9 by omega) (.int .i64 p.lsn) (.int .i64 p.kind) (.int .i64 p.level) (.int .i64 p.right) (.string (M.bs p.high)) (.slice a2 n2 c2)) (other6 I.out.b2 (show w.heap.size + 1 + 1 ≠ g9 by omega) (.int .i64 p.lsn) (.int .i64 p.kind) (.int .i64 p.level) (.int .i64 p.right) (.string (M.bs p.high)) (.slice a2 n2 c2)) (bel6 I.out.below (show w.heap.size ≤ g9 by omega) (.int .i64 p.lsn) (.int .i64 p.kind) (.int .i64 p.level) (.int .i64 p.right) (.string (M.bs p.high)) (.slice a2 n2 c2)))
                refine HX.out _ _ ⟨(fun h => by cases (Eq.trans (Eq.symm (show _ = true by kernel_rfl)) h)), ?_⟩
                clear HX d0 d1 d2 d3 d4 d5 f0 f1 f2 f3 f4 f5 I N9 N8
                generalize ((((((w25.setCell ⟨g9, 0, none⟩ (.int .i64 p.lsn)).setCell ⟨g9, 1, none⟩ (.int .i64 p.kind)).setCell ⟨g9, 2, none⟩ (.int .i64 p.level)).setCell ⟨g9, 3, none⟩ (.int .i64 p.right)).setCell ⟨g9, 4, none⟩ (.string (M.bs p.high))).setCell ⟨g9, 5, none⟩ (.slice a2 n2 c2)) = w26 at *
                have I := Ix
                have N9 := N9x
                have N8 := N8x
                clear Ix N9x N8x
                refine until_done (by kernel_rfl) ⟨rfl, g8, g9, ?_, by omega, by omega, by omega, N8.out, N9.out, I.out⟩ _
                kernel_rfl
              · skip
                refine wpOp_step rfl (fun KX hKX => ?_)
                have HX := hid hKX
                clear hKX
                go_simp
                have kk : Bel w22 (w22.alloc (.cells #[.int .i64 0, .int .i64 0, .int .i64 0, .int .i64 0, .string ⟨#[]⟩, .slice none 0 0] 33)) := Bel.al (Below.refl _ _) _
                obtain ⟨g9, hg9⟩ : ∃ g, g = w22.heap.size := ⟨_, rfl⟩
                have Zg9 := I.out.b2.lt
                rw [← hg9] at Zg9
                have N9 : Hid (Blk (w22.alloc (.cells #[.int .i64 0, .int .i64 0, .int .i64 0, .int .i64 0, .string ⟨#[]⟩, .slice none 0 0] 33)) g9 #[.int .i64 0, .int .i64 0, .int .i64 0, .int .i64 0, .string ⟨#[]⟩, .slice none 0 0] 33) := by rw [hg9]; exact Blk.new _ _ _
                have Ix := hid (I.out.bel kk)
                have N8x := hid (N8.out.below kk N8.out.lt)
                have hneN8 := N8.out.lt
                rw [← hg9] at hneN8
                refine HX.out _ _ ⟨fun _ => Ix.out.b0, ?_⟩
                rw [← hg9]
                clear HX kk I hg9 N8
                have I := Ix
                clear Ix
                have N8 := N8x
                clear N8x
                generalize w22.alloc (.cells #[.int .i64 0, .int .i64 0, .int .i64 0, .int .i64 0, .string ⟨#[]⟩, .slice none 0 0] 33) = w23 at *
                try simp only [Act.put]
                refine until_step (j := 11) (by kernel_rfl) rfl (by kernel_rfl) (fun KX hKX => ?_)
                have HX := hid hKX
                clear hKX
                go_simp
                refine (with_any p (some ⟨b, off, none⟩) p.es.length cap a2 n2 c2 w23).mono ?_
                rintro e w24 ⟨rfl, kk⟩
                have Ix := hid (I.out.bel kk)
                have N8x := hid (N8.out.below kk N8.out.lt)
                have N9x := hid (N9.out.below kk N9.out.lt)
                refine HX.out _ _ ⟨fun _ => Ix.out.b0, ?_⟩
                clear HX kk I N8 N9
                have I := Ix
                clear Ix
                have N8 := N8x
                clear N8x
                have N9 := N9x
                clear N9x
                try simp only [Act.put]
                obtain ⟨d0, d1, d2, d3, d4, d5⟩ := blk_cells N8.out
                have f0 := N8.out.frozen 0
                have f1 := N8.out.frozen 1
                have f2 := N8.out.frozen 2
                have f3 := N8.out.frozen 3
                have f4 := N8.out.frozen 4
                have f5 := N8.out.frozen 5
                refine until_step (j := 14) (by kernel_rfl) rfl (by kernel_rfl) (fun KX hKX => ?_)
                have HX := hid hKX
                clear hKX
                go_simp
                have N8x := hid (set6 N8.out (.int .i64 p.lsn) (.int .i64 p.kind) (.int .i64 p.level) (.int .i64 p.right) (.string (M.bs p.high)) (.slice a1 n1 c1))
                have N9x := hid (other6 N9.out (show g9 ≠ g8 by omega) (.int .i64 p.lsn) (.int .i64 p.kind) (.int .i64 p.level) (.int .i64 p.right) (.string (M.bs p.high)) (.slice a1 n1 c1))
                have Ix := hid (SC.mk (other6 I.out.b0 (show w.heap.size ≠ g8 by omega) (.int .i64 p.lsn) (.int .i64 p.kind) (.int .i64 p.level) (.int .i64 p.right) (.string (M.bs p.high)) (.slice a1 n1 c1)) (other6 I.out.b1 (show w.heap.size + 1 ≠ g8 by omega) (.int .i64 p.lsn) (.int .i64 p.kind) (.int .i64 p.level) (.int .i64 p.right) (.string (M.bs p.high)) (.slice a1 n1 c1)) (other6 I.out.b2 (show w.heap.size + 1 + 1 ≠ g8 by omega) (.int .i64 p.lsn) (.int .i64 p.kind) (.int .i64 p.level) (.int .i64 p.right) (.string (M.bs p.high)) (.slice a1 n1 c1)) (bel6 I.out.below (show w.heap.size ≤ g8 by omega) (.int .i64 p.lsn) (.int .i64 p.kind) (.int .i64 p.level) (.int .i64 p.right) (.string (M.bs p.high)) (.slice a1 n1 c1)))
                refine HX.out _ _ ⟨(fun h => by cases (Eq.trans (Eq.symm (show _ = true by kernel_rfl)) h)), ?_⟩
                clear HX d0 d1 d2 d3 d4 d5 f0 f1 f2 f3 f4 f5 I N8 N9
                generalize ((((((w24.setCell ⟨g8, 0, none⟩ (.int .i64 p.lsn)).setCell ⟨g8, 1, none⟩ (.int .i64 p.kind)).setCell ⟨g8, 2, none⟩ (.int .i64 p.level)).setCell ⟨g8, 3, none⟩ (.int .i64 p.right)).setCell ⟨g8, 4, none⟩ (.string (M.bs p.high))).setCell ⟨g8, 5, none⟩ (.slice a1 n1 c1)) = w25 at *
                have I := Ix
                have N8 := N8x
                have N9 := N9x
                clear Ix N8x N9x
                try simp only [Act.put]
                obtain ⟨d0, d1, d2, d3, d4, d5⟩ := blk_cells N9.out
                have f0 := N9.out.frozen 0
                have f1 := N9.out.frozen 1
                have f2 := N9.out.frozen 2
                have f3 := N9.out.frozen 3
                have f4 := N9.out.frozen 4
                have f5 := N9.out.frozen 5
                refine until_step (j := 15) (by kernel_rfl) rfl (by kernel_rfl) (fun KX hKX => ?_)
                have HX := hid hKX
                clear hKX
                go_simp
                have N9x := hid (set6 N9.out (.int .i64 p.lsn) (.int .i64 p.kind) (.int .i64 p.level) (.int .i64 p.right) (.string (M.bs p.high)) (.slice a2 n2 c2))
                have N8x := hid (other6 N8.out (show g8 ≠ g9 by omega) (.int .i64 p.lsn) (.int .i64 p.kind) (.int .i64 p.level) (.int .i64 p.right) (.string (M.bs p.high)) (.slice a2 n2 c2))
                have Ix := hid (SC.mk (other6 I.out.b0 (show w.heap.size ≠ g9 by omega) (.int .i64 p.lsn) (.int .i64 p.kind) (.int .i64 p.level) (.int .i64 p.right) (.string (M.bs p.high)) (.slice a2 n2 c2)) (other6 I.out.b1 (show w.heap.size + 1 ≠ g9 by omega) (.int .i64 p.lsn) (.int .i64 p.kind) (.int .i64 p.level) (.int .i64 p.right) (.string (M.bs p.high)) (.slice a2 n2 c2)) (other6 I.out.b2 (show w.heap.size + 1 + 1 ≠ g9 by omega) (.int .i64 p.lsn) (.int .i64 p.kind) (.int .i64 p.level) (.int .i64 p.right) (.string (M.bs p.high)) (.slice a2 n2 c2)) (bel6 I.out.below (show w.heap.size ≤ g9 by omega) (.int .i64 p.lsn) (.int .i64 p.kind) (.int .i64 p.level) (.int .i64 p.right) (.string (M.bs p.high)) (.slice a2 n2 c2)))
                refine HX.out _ _ ⟨(fun h => by cases (Eq.trans (Eq.symm (show _ = true by kernel_rfl)) h)), ?_⟩
                clear HX d0 d1 d2 d3 d4 d5 f0 f1 f2 f3 f4 f5 I N9 N8
                generalize ((((((w25.setCell ⟨g9, 0, none⟩ (.int .i64 p.lsn)).setCell ⟨g9, 1, none⟩ (.int .i64 p.kind)).setCell ⟨g9, 2, none⟩ (.int .i64 p.level)).setCell ⟨g9, 3, none⟩ (.int .i64 p.right)).setCell ⟨g9, 4, none⟩ (.string (M.bs p.high))).setCell ⟨g9, 5, none⟩ (.slice a2 n2 c2)) = w26 at *
                have I := Ix
                have N9 := N9x
                have N8 := N8x
                clear Ix N9x N8x
                refine until_done (by kernel_rfl) ⟨rfl, g8, g9, ?_, by omega, by omega, by omega, N8.out, N9.out, I.out⟩ _
                kernel_rfl
            · skip
              refine wpOp_step rfl (fun KX hKX => ?_)
              have HX := hid hKX
              clear hKX
              go_simp
              have kk : Bel w21 (w21.alloc (.cells #[.int .i64 0, .int .i64 0, .int .i64 0, .int .i64 0, .string ⟨#[]⟩, .slice none 0 0] 33)) := Bel.al (Below.refl _ _) _
              obtain ⟨g9, hg9⟩ : ∃ g, g = w21.heap.size := ⟨_, rfl⟩
              have Zg9 := I.out.b2.lt
              rw [← hg9] at Zg9
              have N9 : Hid (Blk (w21.alloc (.cells #[.int .i64 0, .int .i64 0, .int .i64 0, .int .i64 0, .string ⟨#[]⟩, .slice none 0 0] 33)) g9 #[.int .i64 0, .int .i64 0, .int .i64 0, .int .i64 0, .string ⟨#[]⟩, .slice none 0 0] 33) := by rw [hg9]; exact Blk.new _ _ _
              have Ix := hid (I.out.bel kk)
              refine HX.out _ _ ⟨fun _ => Ix.out.b0, ?_⟩
              rw [← hg9]
              clear HX kk I hg9 
              have I := Ix
              clear Ix
              generalize w21.alloc (.cells #[.int .i64 0, .int .i64 0, .int .i64 0, .int .i64 0, .string ⟨#[]⟩, .slice none 0 0] 33) = w22 at *
              try simp only [Act.put]
              refine until_ready (rs := [11, 12]) (by kernel_rfl) (by simp) ?_
              intro jj hjj
              simp only [List.mem_cons, List.not_mem_nil, or_false] at hjj
              rcases hjj with rfl | rfl
              · skip
                refine wpOp_step rfl (fun KX hKX => ?_)
                have HX := hid hKX
                clear hKX
                go_simp
                refine (with_any p (some ⟨b, off, none⟩) p.es.length cap a2 n2 c2 w22).mono ?_
                rintro e w23 ⟨rfl, kk⟩
                have Ix := hid (I.out.bel kk)
                have N9x := hid (N9.out.below kk N9.out.lt)
                refine HX.out _ _ ⟨fun _ => Ix.out.b0, ?_⟩
                clear HX kk I N9
                have I := Ix
                clear Ix
                have N9 := N9x
                clear N9x
                try simp only [Act.put]
                refine until_step (j := 12) (by kernel_rfl) rfl (by kernel_rfl) (fun KX hKX => ?_)
                have HX := hid hKX
                clear hKX
                go_simp
                have kk : Bel w23 (w23.alloc (.cells #[.int .i64 0, .int .i64 0, .int .i64 0, .int .i64 0, .string ⟨#[]⟩, .slice none 0 0] 33)) := Bel.al (Below.refl _ _) _
                obtain ⟨g8, hg8⟩ : ∃ g, g = w23.heap.size := ⟨_, rfl⟩
                have Zg8 := I.out.b2.lt
                rw [← hg8] at Zg8
                have N8 : Hid (Blk (w23.alloc (.cells #[.int .i64 0, .int .i64 0, .int .i64 0, .int .i64 0, .string ⟨#[]⟩, .slice none 0 0] 33)) g8 #[.int .i64 0, .int .i64 0, .int .i64 0, .int .i64 0, .string ⟨#[]⟩, .slice none 0 0] 33) := by rw [hg8]; exact Blk.new _ _ _
                have Ix := hid (I.out.bel kk)
                have N9x := hid (N9.out.below kk N9.out.lt)
                have hneN9 := N9.out.lt
                rw [← hg8] at hneN9
                refine HX.out _ _ ⟨fun _ => Ix.out.b0, ?_⟩
                rw [← hg8]
                clear HX kk I hg8 N9
                have I := Ix
                clear Ix
                have N9 := N9x
                clear N9x
                generalize w23.alloc (.cells #[.int .i64 0, .int .i64 0, .int .i64 0, .int .i64 0, .string ⟨#[]⟩, .slice none 0 0] 33) = w24 at *
                try simp only [Act.put]
                obtain ⟨d0, d1, d2, d3, d4, d5⟩ := blk_cells N8.out
                have f0 := N8.out.frozen 0
                have f1 := N8.out.frozen 1
                have f2 := N8.out.frozen 2
                have f3 := N8.out.frozen 3
                have f4 := N8.out.frozen 4
                have f5 := N8.out.frozen 5
                refine until_step (j := 14) (by kernel_rfl) rfl (by kernel_rfl) (fun KX hKX => ?_)
                have HX := hid hKX
                clear hKX
                go_simp
                have N8x := hid (set6 N8.out (.int .i64 p.lsn) (.int .i64 p.kind) (.int .i64 p.level) (.int .i64 p.right) (.string (M.bs p.high)) (.slice a1 n1 c1))
                have N9x := hid (other6 N9.out (show g9 ≠ g8 by omega) (.int .i64 p.lsn) (.int .i64 p.kind) (.int .i64 p.level) (.int .i64 p.right) (.string (M.bs p.high)) (.slice a1 n1 c1))
                have Ix := hid (SC.mk (other6 I.out.b0 (show w.heap.size ≠ g8 by omega) (.int .i64 p.lsn) (.int .i64 p.kind) (.int .i64 p.level) (.int .i64 p.right) (.string (M.bs p.high)) (.slice a1 n1 c1)) (other6 I.out.b1 (show w.heap.size + 1 ≠ g8 by omega) (.int .i64 p.lsn) (.int .i64 p.kind) (.int .i64 p.level) (.int .i64 p.right) (.string (M.bs p.high)) (.slice a1 n1 c1)) (other6 I.out.b2 (show w.heap.size + 1 + 1 ≠ g8 by omega) (.int .i64 p.lsn) (.int .i64 p.kind) (.int .i64 p.level) (.int .i64 p.right) (.string (M.bs p.high)) (.slice a1 n1 c1)) (bel6 I.out.below (show w.heap.size ≤ g8 by omega) (.int .i64 p.lsn) (.int .i64 p.kind) (.int .i64 p.level) (.int .i64 p.right) (.string (M.bs p.high)) (.slice a1 n1 c1)))
                refine HX.out _ _ ⟨(fun h => by cases (Eq.trans (Eq.symm (show _ = true by kernel_rfl)) h)), ?_⟩
                clear HX d0 d1 d2 d3 d4 d5 f0 f1 f2 f3 f4 f5 I N8 N9
                generalize ((((((w24.setCell ⟨g8, 0, none⟩ (.int .i64 p.lsn)).setCell ⟨g8, 1, none⟩ (.int .i64 p.kind)).setCell ⟨g8, 2, none⟩ (.int .i64 p.level)).setCell ⟨g8, 3, none⟩ (.int .i64 p.right)).setCell ⟨g8, 4, none⟩ (.string (M.bs p.high))).setCell ⟨g8, 5, none⟩ (.slice a1 n1 c1)) = w25 at *
                have I := Ix
                have N8 := N8x
                have N9 := N9x
                clear Ix N8x N9x
                try simp only [Act.put]
                obtain ⟨d0, d1, d2, d3, d4, d5⟩ := blk_cells N9.out
                have f0 := N9.out.frozen 0
                have f1 := N9.out.frozen 1
                have f2 := N9.out.frozen 2
                have f3 := N9.out.frozen 3
                have f4 := N9.out.frozen 4
                have f5 := N9.out.frozen 5
                refine until_step (j := 15) (by kernel_rfl) rfl (by kernel_rfl) (fun KX hKX => ?_)
                have HX := hid hKX
                clear hKX
                go_simp
                have N9x := hid (set6 N9.out (.int .i64 p.lsn) (.int .i64 p.kind) (.int .i64 p.level) (.int .i64 p.right) (.string (M.bs p.high)) (.slice a2 n2 c2))
                have N8x := hid (other6 N8.out (show g8 ≠ g9 by omega) (.int .i64 p.lsn) (.int .i64 p.kind) (.int .i64 p.level) (.int .i64 p.right) (.string (M.bs p.high)) (.slice a2 n2 c2))
                have Ix := hid (SC.mk (other6 I.out.b0 (show w.heap.size ≠ g9 by omega) (.int .i64 p.lsn) (.int .i64 p.kind) (.int .i64 p.level) (.int .i64 p.right) (.string (M.bs p.high)) (.slice a2 n2 c2)) (other6 I.out.b1 (show w.heap.size + 1 ≠ g9 by omega) (.int .i64 p.lsn) (.int .i64 p.kind) (.int .i64 p.level) (.int .i64 p.right) (.string (M.bs p.high)) (.slice a2 n2 c2)) (other6 I.out.b2 (show w.heap.size + 1 + 1 ≠ g9 by omega) (.int .i64 p.lsn) (.int .i64 p.kind) (.int .i64 p.level) (.int .i64 p.right) (.string (M.bs p.high)) (.slice a2 n2 c2)) (bel6 I.out.below (show w.heap.size ≤ g9 by omega) (.int .i64 p.lsn) (.int .i64 p.kind) (.int .i64 p.level) (.int .i64 p.right) (.string (M.bs p.high)) (.slice a2 n2 c2)))
                refine HX.out _ _ ⟨(fun h => by cases (Eq.trans (Eq.symm (show _ = true by kernel_rfl)) h)), ?_⟩
                clear HX d0 d1 d2 d3 d4 d5 f0 f1 f2 f3 f4 f5 I N9 N8
                generalize ((((((w25.setCell ⟨g9, 0, none⟩ (.int .i64 p.lsn)).setCell ⟨g9, 1, none⟩ (.int .i64 p.kind)).setCell ⟨g9, 2, none⟩ (.int .i64 p.level)).setCell ⟨g9, 3, none⟩ (.int .i64 p.right)).setCell ⟨g9, 4, none⟩ (.string (M.bs p.high))).setCell ⟨g9, 5, none⟩ (.slice a2 n2 c2)) = w26 at *
                have I := Ix
                have N9 := N9x
                have N8 := N8x
                clear Ix N9x N8x
                refine until_done (by kernel_rfl) ⟨rfl, g8, g9, ?_, by omega, by omega, by omega, N8.out, N9.out, I.out⟩ _
                kernel_rfl
              · skip
                refine wpOp_step rfl (fun KX hKX => ?_)
                have HX := hid hKX
                clear hKX
                go_simp
                have kk : Bel w22 (w22.alloc (.cells #[.int .i64 0, .int .i64 0, .int .i64 0, .int .i64 0, .string ⟨#[]⟩, .slice none 0 0] 33)) := Bel.al (Below.refl _ _) _
                obtain ⟨g8, hg8⟩ : ∃ g, g = w22.heap.size := ⟨_, rfl⟩
                have Zg8 := I.out.b2.lt
                rw [← hg8] at Zg8
                have N8 : Hid (Blk (w22.alloc (.cells #[.int .i64 0, .int .i64 0, .int .i64 0, .int .i64 0, .string ⟨#[]⟩, .slice none 0 0] 33)) g8 #[.int .i64 0, .int .i64 0, .int .i64 0, .int .i64 0, .string ⟨#[]⟩, .slice none 0 0] 33) := by rw [hg8]; exact Blk.new _ _ _
                have Ix := hid (I.out.bel kk)
                have N9x := hid (N9.out.below kk N9.out.lt)
                have hneN9 := N9.out.lt
                rw [← hg8] at hneN9
                refine HX.out _ _ ⟨fun _ => Ix.out.b0, ?_⟩
                rw [← hg8]
                clear HX kk I hg8 N9
                have I := Ix
                clear Ix
                have N9 := N9x
                clear N9x
                generalize w22.alloc (.cells #[.int .i64 0, .int .i64 0, .int .i64 0, .int .i64 0, .string ⟨#[]⟩, .slice none 0 0] 33) = w23 at *
                try simp only [Act.put]
                refine until_step (j := 11) (by kernel_rfl) rfl (by kernel_rfl) (fun KX hKX => ?_)
                have HX := hid hKX
                clear hKX
                go_simp
                refine (with_any p (some ⟨b, off, none⟩) p.es.length cap a2 n2 c2 w23).mono ?_
                rintro e w24 ⟨rfl, kk⟩
                have Ix := hid (I.out.bel kk)
                have N8x := hid (N8.out.below kk N8.out.lt)
                have N9x := hid (N9.out.below kk N9.out.lt)
                refine HX.out _ _ ⟨fun _ => Ix.out.b0, ?_⟩
                clear HX kk I N8 N9
                have I := Ix
                clear Ix
                have N8 := N8x
                clear N8x
                have N9 := N9x
                clear N9x
                try simp only [Act.put]
                obtain ⟨d0, d1, d2, d3, d4, d5⟩ := blk_cells N8.out
                have f0 := N8.out.frozen 0
                have f1 := N8.out.frozen 1
                have f2 := N8.out.frozen 2
                have f3 := N8.out.frozen 3
                have f4 := N8.out.frozen 4
                have f5 := N8.out.frozen 5
                refine until_step (j := 14) (by kernel_rfl) rfl (by kernel_rfl) (fun KX hKX => ?_)
                have HX := hid hKX
                clear hKX
                go_simp
                have N8x := hid (set6 N8.out (.int .i64 p.lsn) (.int .i64 p.kind) (.int .i64 p.level) (.int .i64 p.right) (.string (M.bs p.high)) (.slice a1 n1 c1))
                have N9x := hid (other6 N9.out (show g9 ≠ g8 by omega) (.int .i64 p.lsn) (.int .i64 p.kind) (.int .i64 p.level) (.int .i64 p.right) (.string (M.bs p.high)) (.slice a1 n1 c1))
                have Ix := hid (SC.mk (other6 I.out.b0 (show w.heap.size ≠ g8 by omega) (.int .i64 p.lsn) (.int .i64 p.kind) (.int .i64 p.level) (.int .i64 p.right) (.string (M.bs p.high)) (.slice a1 n1 c1)) (other6 I.out.b1 (show w.heap.size + 1 ≠ g8 by omega) (.int .i64 p.lsn) (.int .i64 p.kind) (.int .i64 p.level) (.int .i64 p.right) (.string (M.bs p.high)) (.slice a1 n1 c1)) (other6 I.out.b2 (show w.heap.size + 1 + 1 ≠ g8 by omega) (.int .i64 p.lsn) (.int .i64 p.kind) (.int .i64 p.level) (.int .i64 p.right) (.string (M.bs p.high)) (.slice a1 n1 c1)) (bel6 I.out.below (show w.heap.size ≤ g8 by omega) (.int .i64 p.lsn) (.int .i64 p.kind) (.int .i64 p.level) (.int .i64 p.right) (.string (M.bs p.high)) (.slice a1 n1 c1)))
                refine HX.out _ _ ⟨(fun h => by cases (Eq.trans (Eq.symm (show _ = true by kernel_rfl)) h)), ?_⟩
                clear HX d0 d1 d2 d3 d4 d5 f0 f1 f2 f3 f4 f5 I N8 N9
                generalize ((((((w24.setCell ⟨g8, 0, none⟩ (.int .i64 p.lsn)).setCell ⟨g8, 1, none⟩ (.int .i64 p.kind)).setCell ⟨g8, 2, none⟩ (.int .i64 p.level)).setCell ⟨g8, 3, none⟩ (.int .i64 p.right)).setCell ⟨g8, 4, none⟩ (.string (M.bs p.high))).setCell ⟨g8, 5, none⟩ (.slice a1 n1 c1)) = w25 at *
                have I := Ix
                have N8 := N8x
                have N9 := N9x
                clear Ix N8x N9x
                try simp only [Act.put]
                obtain ⟨d0, d1, d2, d3, d4, d5⟩ := blk_cells N9.out
                have f0 := N9.out.frozen 0
                have f1 := N9.out.frozen 1
                have f2 := N9.out.frozen 2
                have f3 := N9.out.frozen 3
                have f4 := N9.out.frozen 4
                have f5 := N9.out.frozen 5
                refine until_step (j := 15) (by kernel_rfl) rfl (by kernel_rfl) (fun KX hKX => ?_)
                have HX := hid hKX
                clear hKX
                go_simp
                have N9x := hid (set6 N9.out (.int .i64 p.lsn) (.int .i64 p.kind) (.int .i64 p.level) (.int .i64 p.right) (.string (M.bs p.high)) (.slice a2 n2 c2))
                have N8x := hid (other6 N8.out (show g8 ≠ g9 by omega) (.int .i64 p.lsn) (.int .i64 p.kind) (.int .i64 p.level) (.int .i64 p.right) (.string (M.bs p.high)) (.slice a2 n2 c2))
                have Ix := hid (SC.mk (other6 I.out.b0 (show w.heap.size ≠ g9 by omega) (.int .i64 p.lsn) (.int .i64 p.kind) (.int .i64 p.level) (.int .i64 p.right) (.string (M.bs p.high)) (.slice a2 n2 c2)) (other6 I.out.b1 (show w.heap.size + 1 ≠ g9 by omega) (.int .i64 p.lsn) (.int .i64 p.kind) (.int .i64 p.level) (.int .i64 p.right) (.string (M.bs p.high)) (.slice a2 n2 c2)) (other6 I.out.b2 (show w.heap.size + 1 + 1 ≠ g9 by omega) (.int .i64 p.lsn) (.int .i64 p.kind) (.int .i64 p.level) (.int .i64 p.right) (.string (M.bs p.high)) (.slice a2 n2 c2)) (bel6 I.out.below (show w.heap.size ≤ g9 by omega) (.int .i64 p.lsn) (.int .i64 p.kind) (.int .i64 p.level) (.int .i64 p.right) (.string (M.bs p.high)) (.slice a2 n2 c2)))
                refine HX.out _ _ ⟨(fun h => by cases (Eq.trans (Eq.symm (show _ = true by kernel_rfl)) h)), ?_⟩
                clear HX d0 d1 d2 d3 d4 d5 f0 f1 f2 f3 f4 f5 I N9 N8
                generalize ((((((w25.setCell ⟨g9, 0, none⟩ (.int .i64 p.lsn)).setCell ⟨g9, 1, none⟩ (.int .i64 p.kind)).setCell ⟨g9, 2, none⟩ (.int .i64 p.level)).setCell ⟨g9, 3, none⟩ (.int .i64 p.right)).setCell ⟨g9, 4, none⟩ (.string (M.bs p.high))).setCell ⟨g9, 5, none⟩ (.slice a2 n2 c2)) = w26 at *
                have I := Ix
                have N9 := N9x
                have N8 := N8x
                clear Ix N9x N8x
                refine until_done (by kernel_rfl) ⟨rfl, g8, g9, ?_, by omega, by omega, by omega, N8.out, N9.out, I.out⟩ _
                kernel_rfl
          · skip
            refine wpOp_step rfl (fun KX hKX => ?_)
            have HX := hid hKX
            clear hKX
            go_simp
            have kk : Bel w5 (w5.alloc (.cells #[.int .i64 0, .int .i64 0, .int .i64 0, .int .i64 0, .string ⟨#[]⟩, .slice none 0 0] 33)) := Bel.al (Below.refl _ _) _
            obtain ⟨g8, hg8⟩ : ∃ g, g = w5.heap.size := ⟨_, rfl⟩
            have Zg8 := I.out.b2.lt
            rw [← hg8] at Zg8
            have N8 : Hid (Blk (w5.alloc (.cells #[.int .i64 0, .int .i64 0, .int .i64 0, .int .i64 0, .string ⟨#[]⟩, .slice none 0 0] 33)) g8 #[.int .i64 0, .int .i64 0, .int .i64 0, .int .i64 0, .string ⟨#[]⟩, .slice none 0 0] 33) := by rw [hg8]; exact Blk.new _ _ _
            have Ix := hid (I.out.bel kk)
            refine HX.out _ _ ⟨fun _ => Ix.out.b0, ?_⟩
            rw [← hg8]
            clear HX kk I hg8 
            have I := Ix
            clear Ix
            generalize w5.alloc (.cells #[.int .i64 0, .int .i64 0, .int .i64 0, .int .i64 0, .string ⟨#[]⟩, .slice none 0 0] 33) = w21 at *
            try simp only [Act.put]
            refine until_ready (rs := [5, 13]) (by kernel_rfl) (by simp) ?_
            intro jj hjj
            simp only [List.mem_cons, List.not_mem_nil, or_false] at hjj
            rcases hjj with rfl | rfl
            · skip
              refine wpOp_step rfl (fun KX hKX => ?_)
              have HX := hid hKX
              clear hKX
              go_simp
              refine (with_any p (some ⟨b, off, none⟩) p.es.length cap a1 n1 c1 w21).mono ?_
              rintro e w22 ⟨rfl, kk⟩
              have Ix := hid (I.out.bel kk)
              have N8x := hid (N8.out.below kk N8.out.lt)
              refine HX.out _ _ ⟨fun _ => Ix.out.b0, ?_⟩
              clear HX kk I N8
              have I := Ix
              clear Ix
              have N8 := N8x
              clear N8x
              try simp only [Act.put]
              refine until_ready (rs := [11, 13]) (by kernel_rfl) (by simp) ?_
              intro jj hjj
              simp only [List.mem_cons, List.not_mem_nil, or_false] at hjj
              rcases hjj with rfl | rfl
              · skip
                refine wpOp_step rfl (fun KX hKX => ?_)
                have HX := hid hKX
                clear hKX
                go_simp
                refine (with_any p (some ⟨b, off, none⟩) p.es.length cap a2 n2 c2 w22).mono ?_
                rintro e w23 ⟨rfl, kk⟩
                have Ix := hid (I.out.bel kk)
                have N8x := hid (N8.out.below kk N8.out.lt)
                refine HX.out _ _ ⟨fun _ => Ix.out.b0, ?_⟩
                clear HX kk I N8
                have I := Ix
                clear Ix
                have N8 := N8x
                clear N8x
                try simp only [Act.put]
                refine until_step (j := 13) (by kernel_rfl) rfl (by kernel_rfl) (fun KX hKX => ?_)
                have HX := hid hKX
                clear hKX
                go_simp
                have kk : Bel w23 (w23.alloc (.cells #[.int .i64 0, .int .i64 0, .int .i64 0, .int .i64 0, .string ⟨#[]⟩, .slice none 0 0] 33)) := Bel.al (Below.refl _ _) _
                obtain ⟨g9, hg9⟩ : ∃ g, g = w23.heap.size := ⟨_, rfl⟩
                have Zg9 := I.out.b2.lt
                rw [← hg9] at Zg9
                have N9 : Hid (Blk (w23.alloc (.cells #[.int .i64 0, .int .i64 0, .int .i64 0, .int .i64 0, .string ⟨#[]⟩, .slice none 0 0] 33)) g9 #[.int .i64 0, .int .i64 0, .int .i64 0, .int .i64 0, .string ⟨#[]⟩, .slice none 0 0] 33) := by rw [hg9]; exact Blk.new _ _ _
                have Ix := hid (I.out.bel kk)
                have N8x := hid (N8.out.below kk N8.out.lt)
                have hneN8 := N8.out.lt
                rw [← hg9] at hneN8
                refine HX.out _ _ ⟨fun _ => Ix.out.b0, ?_⟩
                rw [← hg9]
                clear HX kk I hg9 N8
                have I := Ix
                clear Ix
                have N8 := N8x
                clear N8x
                generalize w23.alloc (.cells #[.int .i64 0, .int .i64 0, .int .i64 0, .int .i64 0, .string ⟨#[]⟩, .slice none 0 0] 33) = w24 at *
                try simp only [Act.put]
                obtain ⟨d0, d1, d2, d3, d4, d5⟩ := blk_cells N8.out
                have f0 := N8.out.frozen 0
                have f1 := N8.out.frozen 1
                have f2 := N8.out.frozen 2
                have f3 := N8.out.frozen 3
                have f4 := N8.out.frozen 4
                have f5 := N8.out.frozen 5
                refine until_step (j := 14) (by kernel_rfl) rfl (by kernel_rfl) (fun KX hKX => ?_)
                have HX := hid hKX
                clear hKX
                go_simp
                have N8x := hid (set6 N8.out (.int .i64 p.lsn) (.int .i64 p.kind) (.int .i64 p.level) (.int .i64 p.right) (.string (M.bs p.high)) (.slice a1 n1 c1))
                have N9x := hid (other6 N9.out (show g9 ≠ g8 by omega) (.int .i64 p.lsn) (.int .i64 p.kind) (.int .i64 p.level) (.int .i64 p.right) (.string (M.bs p.high)) (.slice a1 n1 c1))
                have Ix := hid (SC.mk (other6 I.out.b0 (show w.heap.size ≠ g8 by omega) (.int .i64 p.lsn) (.int .i64 p.kind) (.int .i64 p.level) (.int .i64 p.right) (.string (M.bs p.high)) (.slice a1 n1 c1)) (other6 I.out.b1 (show w.heap.size + 1 ≠ g8 by omega) (.int .i64 p.lsn) (.int .i64 p.kind) (.int .i64 p.level) (.int .i64 p.right) (.string (M.bs p.high)) (.slice a1 n1 c1)) (other6 I.out.b2 (show w.heap.size + 1 + 1 ≠ g8 by omega) (.int .i64 p.lsn) (.int .i64 p.kind) (.int .i64 p.level) (.int .i64 p.right) (.string (M.bs p.high)) (.slice a1 n1 c1)) (bel6 I.out.below (show w.heap.size ≤ g8 by omega) (.int .i64 p.lsn) (.int .i64 p.kind) (.int .i64 p.level) (.int .i64 p.right) (.string (M.bs p.high)) (.slice a1 n1 c1)))
                refine HX.out _ _ ⟨(fun h => by cases (Eq.trans (Eq.symm (show _ = true by kernel_rfl)) h)), ?_⟩
                clear HX d0 d1 d2 d3 d4 d5 f0 f1 f2 f3 f4 f5 I N8 N9
                generalize ((((((w24.setCell ⟨g8, 0, none⟩ (.int .i64 p.lsn)).setCell ⟨g8, 1, none⟩ (.int .i64 p.kind)).setCell ⟨g8, 2, none⟩ (.int .i64 p.level)).setCell ⟨g8, 3, none⟩ (.int .i64 p.right)).setCell ⟨g8, 4, none⟩ (.string (M.bs p.high))).setCell ⟨g8, 5, none⟩ (.slice a1 n1 c1)) = w25 at *
                have I := Ix
                have N8 := N8x
                have N9 := N9x
                clear Ix N8x N9x
                try simp only [Act.put]
                obtain ⟨d0, d1, d2, d3, d4, d5⟩ := blk_cells N9.out
                have f0 := N9.out.frozen 0
                have f1 := N9.out.frozen 1
                have f2 := N9.out.frozen 2
                have f3 := N9.out.frozen 3
                have f4 := N9.out.frozen 4
                have f5 := N9.out.frozen 5
                refine until_step (j := 15) (by kernel_rfl) rfl (by kernel_rfl) (fun KX hKX => ?_)
                have HX := hid hKX
                clear hKX
                go_simp
                have N9x := hid (set6 N9.out (.int .i64 p.lsn) (.int .i64 p.kind) (.int .i64 p.level) (.int .i64 p.right) (.string (M.bs p.high)) (.slice a2 n2 c2))
                have N8x := hid (other6 N8.out (show g8 ≠ g9 by omega) (.int .i64 p.lsn) (.int .i64 p.kind) (.int .i64 p.level) (.int .i64 p.right) (.string (M.bs p.high)) (.slice a2 n2 c2))
                have Ix := hid (SC.mk (other6 I.out.b0 (show w.heap.size ≠ g9 by omega) (.int .i64 p.lsn) (.int .i64 p.kind) (.int .i64 p.level) (.int .i64 p.right) (.string (M.bs p.high)) (.slice a2 n2 c2)) (other6 I.out.b1 (show w.heap.size + 1 ≠ g9 by omega) (.int .i64 p.lsn) (.int .i64 p.kind) (.int .i64 p.level) (.int .i64 p.right) (.string (M.bs p.high)) (.slice a2 n2 c2)) (other6 I.out.b2 (show w.heap.size + 1 + 1 ≠ g9 by omega) (.int .i64 p.lsn) (.int .i64 p.kind) (.int .i64 p.level) (.int .i64 p.right) (.string (M.bs p.high)) (.slice a2 n2 c2)) (bel6 I.out.below (show w.heap.size ≤ g9 by omega) (.int .i64 p.lsn) (.int .i64 p.kind) (.int .i64 p.level) (.int .i64 p.right) (.string (M.bs p.high)) (.slice a2 n2 c2)))
                refine HX.out _ _ ⟨(fun h => by cases (Eq.trans (Eq.symm (show _ = true by kernel_rfl)) h)), ?_⟩
                clear HX d0 d1 d2 d3 d4 d5 f0 f1 f2 f3 f4 f5 I N9 N8
                generalize ((((((w25.setCell ⟨g9, 0, none⟩ (.int .i64 p.lsn)).setCell ⟨g9, 1, none⟩ (.int .i64 p.kind)).setCell ⟨g9, 2, none⟩ (.int .i64 p.level)).setCell ⟨g9, 3, none⟩ (.int .i64 p.right)).setCell ⟨g9, 4, none⟩ (.string (M.bs p.high))).setCell ⟨g9, 5, none⟩ (.slice a2 n2 c2)) = w26 at *
                have I := Ix
                have N9 := N9x
                have N8 := N8x
                clear Ix N9x N8x
                refine until_done (by kernel_rfl) ⟨rfl, g8, g9, ?_, by omega, by omega, by omega, N8.out, N9.out, I.out⟩ _
                kernel_rfl
              · skip
                refine wpOp_step rfl (fun KX hKX => ?_)
                have HX := hid hKX
                clear hKX
                go_simp
                have kk : Bel w22 (w22.alloc (.cells #[.int .i64 0, .int .i64 0, .int .i64 0, .int .i64 0, .string ⟨#[]⟩, .slice none 0 0] 33)) := Bel.al (Below.refl _ _) _
                obtain ⟨g9, hg9⟩ : ∃ g, g = w22.heap.size := ⟨_, rfl⟩
                have Zg9 := I.out.b2.lt
                rw [← hg9] at Zg9
                have N9 : Hid (Blk (w22.alloc (.cells #[.int .i64 0, .int .i64 0, .int .i64 0, .int .i64 0, .string ⟨#[]⟩, .slice none 0 0] 33)) g9 #[.int .i64 0, .int .i64 0, .int .i64 0, .int .i64 0, .string ⟨#[]⟩, .slice none 0 0] 33) := by rw [hg9]; exact Blk.new _ _ _
                have Ix := hid (I.out.bel kk)
                have N8x := hid (N8.out.below kk N8.out.lt)
                have hneN8 := N8.out.lt
                rw [← hg9] at hneN8
                refine HX.out _ _ ⟨fun _ => Ix.out.b0, ?_⟩
                rw [← hg9]
                clear HX kk I hg9 N8
                have I := Ix
                clear Ix
                have N8 := N8x
                clear N8x
                generalize w22.alloc (.cells #[.int .i64 0, .int .i64 0, .int .i64 0, .int .i64 0, .string ⟨#[]⟩, .slice none 0 0] 33) = w23 at *
                try simp only [Act.put]
                refine until_step (j := 11) (by kernel_rfl) rfl (by kernel_rfl) (fun KX hKX => ?_)
                have HX := hid hKX
                clear hKX
                go_simp
                refine (with_any p (some ⟨b, off, none⟩) p.es.length cap a2 n2 c2 w23).mono ?_
                rintro e w24 ⟨rfl, kk⟩
                have Ix := hid (I.out.bel kk)
                have N8x := hid (N8.out.below kk N8.out.lt)
                have N9x := hid (N9.out.below kk N9.out.lt)
                refine HX.out _ _ ⟨fun _ => Ix.out.b0, ?_⟩
                clear HX kk I N8 N9
                have I := Ix
                clear Ix
                have N8 := N8x
                clear N8x
                have N9 := N9x
                clear N9x
                try simp only [Act.put]
                obtain ⟨d0, d1, d2, d3, d4, d5⟩ := blk_cells N8.out
                have f0 := N8.out.frozen 0
                have f1 := N8.out.frozen 1
                have f2 := N8.out.frozen 2
                have f3 := N8.out.frozen 3
                have f4 := N8.out.frozen 4
                have f5 := N8.out.frozen 5
                refine until_step (j := 14) (by kernel_rfl) rfl (by kernel_rfl) (fun KX hKX => ?_)
                have HX := hid hKX
                clear hKX
                go_simp
                have N8x := hid (set6 N8.out (.int .i64 p.lsn) (.int .i64 p.kind) (.int .i64 p.level) (.int .i64 p.right) (.string (M.bs p.high)) (.slice a1 n1 c1))
                have N9x := hid (other6 N9.out (show g9 ≠ g8 by omega) (.int .i64 p.lsn) (.int .i64 p.kind) (.int .i64 p.level) (.int .i64 p.right) (.string (M.bs p.high)) (.slice a1 n1 c1))
                have Ix := hid (SC.mk (other6 I.out.b0 (show w.heap.size ≠ g8 by omega) (.int .i64 p.lsn) (.int .i64 p.kind) (.int .i64 p.level) (.int .i64 p.right) (.string (M.bs p.high)) (.slice a1 n1 c1)) (other6 I.out.b1 (show w.heap.size + 1 ≠ g8 by omega) (.int .i64 p.lsn) (.int .i64 p.kind) (.int .i64 p.level) (.int .i64 p.right) (.string (M.bs p.high)) (.slice a1 n1 c1)) (other6 I.out.b2 (show w.heap.size + 1 + 1 ≠ g8 by omega) (.int .i64 p.lsn) (.int .i64 p.kind) (.int .i64 p.level) (.int .i64 p.right) (.string (M.bs p.high)) (.slice a1 n1 c1)) (bel6 I.out.below (show w.heap.size ≤ g8 by omega) (.int .i64 p.lsn) (.int .i64 p.kind) (.int .i64 p.level) (.int .i64 p.right) (.string (M.bs p.high)) (.slice a1 n1 c1)))
                refine HX.out _ _ ⟨(fun h => by cases (Eq.trans (Eq.symm (show _ = true by kernel_rfl)) h)), ?_⟩
                clear HX d0 d1 d2 d3 d4 d5 f0 f1 f2 f3 f4 f5 I N8 N9
                generalize ((((((w24.setCell ⟨g8, 0, none⟩ (.int .i64 p.lsn)).setCell ⟨g8, 1, none⟩ (.int .i64 p.kind)).setCell ⟨g8, 2, none⟩ (.int .i64 p.level)).setCell ⟨g8, 3, none⟩ (.int .i64 p.right)).setCell ⟨g8, 4, none⟩ (.string (M.bs p.high))).setCell ⟨g8, 5, none⟩ (.slice a1 n1 c1)) = w25 at *
                have I := Ix
                have N8 := N8x
                have N9 := N9x
                clear Ix N8x N9x
                try simp only [Act.put]
                obtain ⟨d0, d1, d2, d3, d4, d5⟩ := blk_cells N9.out
                have f0 := N9.out.frozen 0
                have f1 := N9.out.frozen 1
                have f2 := N9.out.frozen 2
                have f3 := N9.out.frozen 3
                have f4 := N9.out.frozen 4
                have f5 := N9.out.frozen 5
                refine until_step (j := 15) (by kernel_rfl) rfl (by kernel_rfl) (fun KX hKX => ?_)
                have HX := hid hKX
                clear hKX
                go_simp
                have N9x := hid (set6 N9.out (.int .i64 p.lsn) (.int .i64 p.kind) (.int .i64 p.level) (.int .i64 p.right) (.string (M.bs p.high)) (.slice a2 n2 c2))
                have N8x := hid (other6 N8.out (show g8 ≠ g9 by omega) (.int .i64 p.lsn) (.int .i64 p.kind) (.int .i64 p.level) (.int .i64 p.right) (.string (M.bs p.high)) (.slice a2 n2 c2))
                have Ix := hid (SC.mk (other6 I.out.b0 (show w.heap.size ≠ g9 by omega) (.int .i64 p.lsn) (.int .i64 p.kind) (.int .i64 p.level) (.int .i64 p.right) (.string (M.bs p.high)) (.slice a2 n2 c2)) (other6 I.out.b1 (show w.heap.size + 1 ≠ g9 by omega) (.int .i64 p.lsn) (.int .i64 p.kind) (.int .i64 p.level) (.int .i64 p.right) (.string (M.bs p.high)) (.slice a2 n2 c2)) (other6 I.out.b2 (show w.heap.size + 1 + 1 ≠ g9 by omega) (.int .i64 p.lsn) (.int .i64 p.kind) (.int .i64 p.level) (.int .i64 p.right) (.string (M.bs p.high)) (.slice a2 n2 c2)) (bel6 I.out.below (show w.heap.size ≤ g9 by omega) (.int .i64 p.lsn) (.int .i64 p.kind) (.int .i64 p.level) (.int .i64 p.right) (.string (M.bs p.high)) (.slice a2 n2 c2)))
                refine HX.out _ _ ⟨(fun h => by cases (Eq.trans (Eq.symm (show _ = true by kernel_rfl)) h)), ?_⟩
                clear HX d0 d1 d2 d3 d4 d5 f0 f1 f2 f3 f4 f5 I N9 N8
                generalize ((((((w25.setCell ⟨g9, 0, none⟩ (.int .i64 p.lsn)).setCell ⟨g9, 1, none⟩ (.int .i64 p.kind)).setCell ⟨g9, 2, none⟩ (.int .i64 p.level)).setCell ⟨g9, 3, none⟩ (.int .i64 p.right)).setCell ⟨g9, 4, none⟩ (.string (M.bs p.high))).setCell ⟨g9, 5, none⟩ (.slice a2 n2 c2)) = w26 at *
                have I := Ix
                have N9 := N9x
                have N8 := N8x
                clear Ix N9x N8x
                refine until_done (by kernel_rfl) ⟨rfl, g8, g9, ?_, by omega, by omega, by omega, N8.out, N9.out, I.out⟩ _
                kernel_rfl
            · skip
              refine wpOp_step rfl (fun KX hKX => ?_)
              have HX := hid hKX
              clear hKX
              go_simp
              have kk : Bel w21 (w21.alloc (.cells #[.int .i64 0, .int .i64 0, .int .i64 0, .int .i64 0, .string ⟨#[]⟩, .slice none 0 0] 33)) := Bel.al (Below.refl _ _) _
              obtain ⟨g9, hg9⟩ : ∃ g, g = w21.heap.size := ⟨_, rfl⟩
              have Zg9 := I.out.b2.lt
              rw [← hg9] at Zg9
              have N9 : Hid (Blk (w21.alloc (.cells #[.int .i64 0, .int .i64 0, .int .i64 0, .int .i64 0, .string ⟨#[]⟩, .slice none 0 0] 33)) g9 #[.int .i64 0, .int .i64 0, .int .i64 0, .int .i64 0, .string ⟨#[]⟩, .slice none 0 0] 33) := by rw [hg9]; exact Blk.new _ _ _
              have Ix := hid (I.out.bel kk)
              have N8x := hid (N8.out.below kk N8.out.lt)
              have hneN8 := N8.out.lt
              rw [← hg9] at hneN8
              refine HX.out _ _ ⟨fun _ => Ix.out.b0, ?_⟩
              rw [← hg9]
              clear HX kk I hg9 N8
              have I := Ix
              clear Ix
              have N8 := N8x
              clear N8x
              generalize w21.alloc (.cells #[.int .i64 0, .int .i64 0, .int .i64 0, .int .i64 0, .string ⟨#[]⟩, .slice none 0 0] 33) = w22 at *
              try simp only [Act.put]
              refine until_step (j := 5) (by kernel_rfl) rfl (by kernel_rfl) (fun KX hKX => ?_)
              have HX := hid hKX
              clear hKX
              go_simp
              refine (with_any p (some ⟨b, off, none⟩) p.es.length cap a1 n1 c1 w22).mono ?_
              rintro e w23 ⟨rfl, kk⟩
              have Ix := hid (I.out.bel kk)
              have N8x := hid (N8.out.below kk N8.out.lt)
              have N9x := hid (N9.out.below kk N9.out.lt)
              refine HX.out _ _ ⟨fun _ => Ix.out.b0, ?_⟩
              clear HX kk I N8 N9
              have I := Ix
              clear Ix
              have N8 := N8x
              clear N8x
              have N9 := N9x
              clear N9x
              try simp only [Act.put]
              refine until_step (j := 11) (by kernel_rfl) rfl (by kernel_rfl) (fun KX hKX => ?_)
              have HX := hid hKX
              clear hKX
              go_simp
              refine (with_any p (some ⟨b, off, none⟩) p.es.length cap a2 n2 c2 w23).mono ?_
              rintro e w24 ⟨rfl, kk⟩
              have Ix := hid (I.out.bel kk)
              have N8x := hid (N8.out.below kk N8.out.lt)
              have N9x := hid (N9.out.below kk N9.out.lt)
              refine HX.out _ _ ⟨fun _ => Ix.out.b0, ?_⟩
              clear HX kk I N8 N9
              have I := Ix
              clear Ix
              have N8 := N8x
              clear N8x
              have N9 := N9x
              clear N9x
              try simp only [Act.put]
              obtain ⟨d0, d1, d2, d3, d4, d5⟩ := blk_cells N8.out
              have f0 := N8.out.frozen 0
              have f1 := N8.out.frozen 1
              have f2 := N8.out.frozen 2
              have f3 := N8.out.frozen 3
              have f4 := N8.out.frozen 4
              have f5 := N8.out.frozen 5
              refine until_step (j := 14) (by kernel_rfl) rfl (by kernel_rfl) (fun KX hKX => ?_)
              have HX := hid hKX
              clear hKX
              go_simp
              have N8x := hid (set6 N8.out (.int .i64 p.lsn) (.int .i64 p.kind) (.int .i64 p.level) (.int .i64 p.right) (.string (M.bs p.high)) (.slice a1 n1 c1))
              have N9x := hid (other6 N9.out (show g9 ≠ g8 by omega) (.int .i64 p.lsn) (.int .i64 p.kind) (.int .i64 p.level) (.int .i64 p.right) (.string (M.bs p.high)) (.slice a1 n1 c1))
              have Ix := hid (SC.mk (other6 I.out.b0 (show w.heap.size ≠ g8 by omega) (.int .i64 p.lsn) (.int .i64 p.kind) (.int .i64 p.level) (.int .i64 p.right) (.string (M.bs p.high)) (.slice a1 n1 c1)) (other6 I.out.b1 (show w.heap.size + 1 ≠ g8 by omega) (.int .i64 p.lsn) (.int .i64 p.kind) (.int .i64 p.level) (.int .i64 p.right) (.string (M.bs p.high)) (.slice a1 n1 c1)) (other6 I.out.b2 (show w.heap.size + 1 + 1 ≠ g8 by omega) (.int .i64 p.lsn) (.int .i64 p.kind) (.int .i64 p.level) (.int .i64 p.right) (.string (M.bs p.high)) (.slice a1 n1 c1)) (bel6 I.out.below (show w.heap.size ≤ g8 by omega) (.int .i64 p.lsn) (.int .i64 p.kind) (.int .i64 p.level) (.int .i64 p.right) (.string (M.bs p.high)) (.slice a1 n1 c1)))
              refine HX.out _ _ ⟨(fun h => by cases (Eq.trans (Eq.symm (show _ = true by kernel_rfl)) h)), ?_⟩
              clear HX d0 d1 d2 d3 d4 d5 f0 f1 f2 f3 f4 f5 I N8 N9
              generalize ((((((w24.setCell ⟨g8, 0, none⟩ (.int .i64 p.lsn)).setCell ⟨g8, 1, none⟩ (.int .i64 p.kind)).setCell ⟨g8, 2, none⟩ (.int .i64 p.level)).setCell ⟨g8, 3, none⟩ (.int .i64 p.right)).setCell ⟨g8, 4, none⟩ (.string (M.bs p.high))).setCell ⟨g8, 5, none⟩ (.slice a1 n1 c1)) = w25 at *
              have I := Ix
              have N8 := N8x
              have N9 := N9x
              clear Ix N8x N9x
              try simp only [Act.put]
              obtain ⟨d0, d1, d2, d3, d4, d5⟩ := blk_cells N9.out
              have f0 := N9.out.frozen 0
              have f1 := N9.out.frozen 1
              have f2 := N9.out.frozen 2
              have f3 := N9.out.frozen 3
              have f4 := N9.out.frozen 4
              have f5 := N9.out.frozen 5
              refine until_step (j := 15) (by kernel_rfl) rfl (by kernel_rfl) (fun KX hKX => ?_)
              have HX := hid hKX
              clear hKX
              go_simp
              have N9x := hid (set6 N9.out (.int .i64 p.lsn) (.int .i64 p.kind) (.int .i64 p.level) (.int .i64 p.right) (.string (M.bs p.high)) (.slice a2 n2 c2))
              have N8x := hid (other6 N8.out (show g8 ≠ g9 by omega) (.int .i64 p.lsn) (.int .i64 p.kind) (.int .i64 p.level) (.int .i64 p.right) (.string (M.bs p.high)) (.slice a2 n2 c2))
              have Ix := hid (SC.mk (other6 I.out.b0 (show w.heap.size ≠ g9 by omega) (.int .i64 p.lsn) (.int .i64 p.kind) (.int .i64 p.level) (.int .i64 p.right) (.string (M.bs p.high)) (.slice a2 n2 c2)) (other6 I.out.b1 (show w.heap.size + 1 ≠ g9 by omega) (.int .i64 p.lsn) (.int .i64 p.kind) (.int .i64 p.level) (.int .i64 p.right) (.string (M.bs p.high)) (.slice a2 n2 c2)) (other6 I.out.b2 (show w.heap.size + 1 + 1 ≠ g9 by omega) (.int .i64 p.lsn) (.int .i64 p.kind) (.int .i64 p.level) (.int .i64 p.right) (.string (M.bs p.high)) (.slice a2 n2 c2)) (bel6 I.out.below (show w.heap.size ≤ g9 by omega) (.int .i64 p.lsn) (.int .i64 p.kind) (.int .i64 p.level) (.int .i64 p.right) (.string (M.bs p.high)) (.slice a2 n2 c2)))
              refine HX.out _ _ ⟨(fun h => by cases (Eq.trans (Eq.symm (show _ = true by kernel_rfl)) h)), ?_⟩
              clear HX d0 d1 d2 d3 d4 d5 f0 f1 f2 f3 f4 f5 I N9 N8
              generalize ((((((w25.setCell ⟨g9, 0, none⟩ (.int .i64 p.lsn)).setCell ⟨g9, 1, none⟩ (.int .i64 p.kind)).setCell ⟨g9, 2, none⟩ (.int .i64 p.level)).setCell ⟨g9, 3, none⟩ (.int .i64 p.right)).setCell ⟨g9, 4, none⟩ (.string (M.bs p.high))).setCell ⟨g9, 5, none⟩ (.slice a2 n2 c2)) = w26 at *
              have I := Ix
              have N9 := N9x
              have N8 := N8x
              clear Ix N9x N8x
              refine until_done (by kernel_rfl) ⟨rfl, g8, g9, ?_, by omega, by omega, by omega, N8.out, N9.out, I.out⟩ _
              kernel_rfl
          · skip
            refine wpOp_step rfl (fun KX hKX => ?_)
            have HX := hid hKX
            clear hKX
            go_simp
            have kk : Bel w5 (w5.alloc (.cells #[.int .i64 0, .int .i64 0, .int .i64 0, .int .i64 0, .string ⟨#[]⟩, .slice none 0 0] 33)) := Bel.al (Below.refl _ _) _
            obtain ⟨g9, hg9⟩ : ∃ g, g = w5.heap.size := ⟨_, rfl⟩
            have Zg9 := I.out.b2.lt
            rw [← hg9] at Zg9
            have N9 : Hid (Blk (w5.alloc (.cells #[.int .i64 0, .int .i64 0, .int .i64 0, .int .i64 0, .string ⟨#[]⟩, .slice none 0 0] 33)) g9 #[.int .i64 0, .int .i64 0, .int .i64 0, .int .i64 0, .string ⟨#[]⟩, .slice none 0 0] 33) := by rw [hg9]; exact Blk.new _ _ _
            have Ix := hid (I.out.bel kk)
            refine HX.out _ _ ⟨fun _ => Ix.out.b0, ?_⟩
            rw [← hg9]
            clear HX kk I hg9 
            have I := Ix
            clear Ix
            generalize w5.alloc (.cells #[.int .i64 0, .int .i64 0, .int .i64 0, .int .i64 0, .string ⟨#[]⟩, .slice none 0 0] 33) = w21 at *
            try simp only [Act.put]
            refine until_ready (rs := [5, 12]) (by kernel_rfl) (by simp) ?_
            intro jj hjj
            simp only [List.mem_cons, List.not_mem_nil, or_false] at hjj
            rcases hjj with rfl | rfl
            · skip
              refine wpOp_step rfl (fun KX hKX => ?_)
              have HX := hid hKX
              clear hKX
              go_simp
              refine (with_any p (some ⟨b, off, none⟩) p.es.length cap a1 n1 c1 w21).mono ?_
              rintro e w22 ⟨rfl, kk⟩
              have Ix := hid (I.out.bel kk)
              have N9x := hid (N9.out.below kk N9.out.lt)
              refine HX.out _ _ ⟨fun _ => Ix.out.b0, ?_⟩
              clear HX kk I N9
              have I := Ix
              clear Ix
              have N9 := N9x
              clear N9x
              try simp only [Act.put]
              refine until_ready (rs := [11, 12]) (by kernel_rfl) (by simp) ?_
              intro jj hjj
              simp only [List.mem_cons, List.not_mem_nil, or_false] at hjj
              rcases hjj with rfl | rfl
              · skip
                refine wpOp_step rfl (fun KX hKX => ?_)
                have HX := hid hKX
                clear hKX
                go_simp
                refine (with_any p (some ⟨b, off, none⟩) p.es.length cap a2 n2 c2 w22).mono ?_
                rintro e w23 ⟨rfl, kk⟩
                have Ix := hid (I.out.bel kk)
                have N9x := hid (N9.out.below kk N9.out.lt)
                refine HX.out _ _ ⟨fun _ => Ix.out.b0, ?_⟩
                clear HX kk I N9
                have I := Ix
                clear Ix
                have N9 := N9x
                clear N9x
                try simp only [Act.put]
                refine until_step (j := 12) (by kernel_rfl) rfl (by kernel_rfl) (fun KX hKX => ?_)
                have HX := hid hKX
                clear hKX
                go_simp
                have kk : Bel w23 (w23.alloc (.cells #[.int .i64 0, .int .i64 0, .int .i64 0, .int .i64 0, .string ⟨#[]⟩, .slice none 0 0] 33)) := Bel.al (Below.refl _ _) _
                obtain ⟨g8, hg8⟩ : ∃ g, g = w23.heap.size := ⟨_, rfl⟩
                have Zg8 := I.out.b2.lt
                rw [← hg8] at Zg8
                have N8 : Hid (Blk (w23.alloc (.cells #[.int .i64 0, .int .i64 0, .int .i64 0, .int .i64 0, .string ⟨#[]⟩, .slice none 0 0] 33)) g8 #[.int .i64 0, .int .i64 0, .int .i64 0, .int .i64 0, .string ⟨#[]⟩, .slice none 0 0] 33) := by rw [hg8]; exact Blk.new _ _ _
                have Ix := hid (I.out.bel kk)
                have N9x := hid (N9.out.below kk N9.out.lt)
                have hneN9 := N9.out.lt
                rw [← hg8] at hneN9
                refine HX.out _ _ ⟨fun _ => Ix.out.b0, ?_⟩
                rw [← hg8]
                clear HX kk I hg8 N9
                have I := Ix
                clear Ix
                have N9 := N9x
                clear N9x
                generalize w23.alloc (.cells #[.int .i64 0, .int .i64 0, .int .i64 0, .int .i64 0, .string ⟨#[]⟩, .slice none 0 0] 33) = w24 at *
                try simp only [Act.put]
                obtain ⟨d0, d1, d2, d3, d4, d5⟩ := blk_cells N8.out
                have f0 := N8.out.frozen 0
                have f1 := N8.out.frozen 1
                have f2 := N8.out.frozen 2
                have f3 := N8.out.frozen 3
                have f4 := N8.out.frozen 4
                have f5 := N8.out.frozen 5
                refine until_step (j := 14) (by kernel_rfl) rfl (by kernel_rfl) (fun KX hKX => ?_)
                have HX := hid hKX
                clear hKX
                go_simp
                have N8x := hid (set6 N8.out (.int .i64 p.lsn) (.int .i64 p.kind) (.int .i64 p.level) (.int .i64 p.right) (.string (M.bs p.high)) (.slice a1 n1 c1))
                have N9x := hid (other6 N9.out (show g9 ≠ g8 by omega) (.int .i64 p.lsn) (.int .i64 p.kind) (.int .i64 p.level) (.int .i64 p.right) (.string (M.bs p.high)) (.slice a1 n1 c1))
                have Ix := hid (SC.mk (other6 I.out.b0 (show w.heap.size ≠ g8 by omega) (.int .i64 p.lsn) (.int .i64 p.kind) (.int .i64 p.level) (.int .i64 p.right) (.string (M.bs p.high)) (.slice a1 n1 c1)) (other6 I.out.b1 (show w.heap.size + 1 ≠ g8 by omega) (.int .i64 p.lsn) (.int .i64 p.kind) (.int .i64 p.level) (.int .i64 p.right) (.string (M.bs p.high)) (.slice a1 n1 c1)) (other6 I.out.b2 (show w.heap.size + 1 + 1 ≠ g8 by omega) (.int .i64 p.lsn) (.int .i64 p.kind) (.int .i64 p.level) (.int .i64 p.right) (.string (M.bs p.high)) (.slice a1 n1 c1)) (bel6 I.out.below (show w.heap.size ≤ g8 by omega) (.int .i64 p.lsn) (.int .i64 p.kind) (.int .i64 p.level) (.int .i64 p.right) (.string (M.bs p.high)) (.slice a1 n1 c1)))
                refine HX.out _ _ ⟨(fun h => by cases (Eq.trans (Eq.symm (show _ = true by kernel_rfl)) h)), ?_⟩
                clear HX d0 d1 d2 d3 d4 d5 f0 f1 f2 f3 f4 f5 I N8 N9
                generalize ((((((w24.setCell ⟨g8, 0, none⟩ (.int .i64 p.lsn)).setCell ⟨g8, 1, none⟩ (.int .i64 p.kind)).setCell ⟨g8, 2, none⟩ (.int .i64 p.level)).setCell ⟨g8, 3, none⟩ (.int .i64 p.right)).setCell ⟨g8, 4, none⟩ (.string (M.bs p.high))).setCell ⟨g8, 5, none⟩ (.slice a1 n1 c1)) = w25 at *
                have I := Ix
                have N8 := N8x
                have N9 := N9x
                clear Ix N8x N9x
                try simp only [Act.put]
                obtain ⟨d0, d1, d2, d3, d4, d5⟩ := blk_cells N9.out
                have f0 := N9.out.frozen 0
                have f1 := N9.out.frozen 1
                have f2 := N9.out.frozen 2
                have f3 := N9.out.frozen 3
                have f4 := N9.out.frozen 4
                have f5 := N9.out.frozen 5
                refine until_step (j := 15) (by kernel_rfl) rfl (by kernel_rfl) (fun KX hKX => ?_)
                have HX := hid hKX
                clear hKX
                go_simp
                have N9x := hid (set6 N9.out (.int .i64 p.lsn) (.int .i64 p.kind) (.int .i64 p.level) (.int .i64 p.right) (.string (M.bs p.high)) (.slice a2 n2 c2))
                have N8x := hid (other6 N8.out (show g8 ≠ g9 by omega) (.int .i64 p.lsn) (.int .i64 p.kind) (.int .i64 p.level) (.int .i64 p.right) (.string (M.bs p.high)) (.slice a2 n2 c2))
                have Ix := hid (SC.mk (other6 I.out.b0 (show w.heap.size ≠ g9 by omega) (.int .i64 p.lsn) (.int .i64 p.kind) (.int .i64 p.level) (.int .i64 p.right) (.string (M.bs p.high)) (.slice a2 n2 c2)) (other6 I.out.b1 (show w.heap.size + 1 ≠ g9 by omega) (.int .i64 p.lsn) (.int .i64 p.kind) (.int .i64 p.level) (.int .i64 p.right) (.string (M.bs p.high)) (.slice a2 n2 c2)) (other6 I.out.b2 (show w.heap.size + 1 + 1 ≠ g9 by omega) (.int .i64 p.lsn) (.int .i64 p.kind) (.int .i64 p.level) (.int .i64 p.right) (.string (M.bs p.high)) (.slice a2 n2 c2)) (bel6 I.out.below (show w.heap.size ≤ g9 by omega) (.int .i64 p.lsn) (.int .i64 p.kind) (.int .i64 p.level) (.int .i64 p.right) (.string (M.bs p.high)) (.slice a2 n2 c2)))
                refine HX.out _ _ ⟨(fun h => by cases (Eq.trans (Eq.symm (show _ = true by kernel_rfl)) h)), ?_⟩
                clear HX d0 d1 d2 d3 d4 d5 f0 f1 f2 f3 f4 f5 I N9 N8
                generalize ((((((w25.setCell ⟨g9, 0, none⟩ (.int .i64 p.lsn)).setCell ⟨g9, 1, none⟩ (.int .i64 p.kind)).setCell ⟨g9, 2, none⟩ (.int .i64 p.level)).setCell ⟨g9, 3, none⟩ (.int .i64 p.right)).setCell ⟨g9, 4, none⟩ (.string (M.bs p.high))).setCell ⟨g9, 5, none⟩ (.slice a2 n2 c2)) = w26 at *
                have I := Ix
                have N9 := N9x
                have N8 := N8x
                clear Ix N9x N8x
                refine until_done (by kernel_rfl) ⟨rfl, g8, g9, ?_, by omega, by omega, by omega, N8.out, N9.out, I.out⟩ _
                kernel_rfl
              · skip
                refine wpOp_step rfl (fun KX hKX => ?_)
                have HX := hid hKX
                clear hKX
                go_simp
                have kk : Bel w22 (w22.alloc (.cells #[.int .i64 0, .int .i64 0, .int .i64 0, .int .i64 0, .string ⟨#[]⟩, .slice none 0 0] 33)) := Bel.al (Below.refl _ _) _
                obtain ⟨g8, hg8⟩ : ∃ g, g = w22.heap.size := ⟨_, rfl⟩
                have Zg8 := I.out.b2.lt
                rw [← hg8] at Zg8
                have N8 : Hid (Blk (w22.alloc (.cells #[.int .i64 0, .int .i64 0, .int .i64 0, .int .i64 0, .string ⟨#[]⟩, .slice none 0 0] 33)) g8 #[.int .i64 0, .int .i64 0, .int .i64 0, .int .i64 0, .string ⟨#[]⟩, .slice none 0 0] 33) := by rw [hg8]; exact Blk.new _ _ _
                have Ix := hid (I.out.bel kk)
                have N9x := hid (N9.out.below kk N9.out.lt)
                have hneN9 := N9.out.lt
                rw [← hg8] at hneN9
                refine HX.out _ _ ⟨fun _ => Ix.out.b0, ?_⟩
                rw [← hg8]
                clear HX kk I hg8 N9
                have I := Ix
                clear Ix
                have N9 := N9x
                clear N9x
                generalize w22.alloc (.cells #[.int .i64 0, .int .i64 0, .int .i64 0, .int .i64 0, .string ⟨#[]⟩, .slice none 0 0] 33) = w23 at *
                try simp only [Act.put]
                refine until_step (j := 11) (by kernel_rfl) rfl (by kernel_rfl) (fun KX hKX => ?_)
                have HX := hid hKX
                clear hKX
                go_simp
                refine (with_any p (some ⟨b, off, none⟩) p.es.length cap a2 n2 c2 w23).mono ?_
                rintro e w24 ⟨rfl, kk⟩
                have Ix := hid (I.out.bel kk)
                have N8x := hid (N8.out.below kk N8.out.lt)
                have N9x := hid (N9.out.below kk N9.out.lt)
                refine HX.out _ _ ⟨fun _ => Ix.out.b0, ?_⟩
                clear HX kk I N8 N9
                have I := Ix
                clear Ix
                have N8 := N8x
                clear N8x
                have N9 := N9x
                clear N9x
                try simp only [Act.put]
                obtain ⟨d0, d1, d2, d3, d4, d5⟩ := blk_cells N8.out
                have f0 := N8.out.frozen 0
                have f1 := N8.out.frozen 1
                have f2 := N8.out.frozen 2
                have f3 := N8.out.frozen 3
                have f4 := N8.out.frozen 4
                have f5 := N8.out.frozen 5
                refine until_step (j := 14) (by kernel_rfl) rfl (by kernel_rfl) (fun KX hKX => ?_)
                have HX := hid hKX
                clear hKX
                go_simp
                have N8x := hid (set6 N8.out (.int .i64 p.lsn) (.int .i64 p.kind) (.int .i64 p.level) (.int .i64 p.right) (.string (M.bs p.high)) (.slice a1 n1 c1))
                have N9x := hid (other6 N9.out (show g9 ≠ g8 by omega) (.int .i64 p.lsn) (.int .i64 p.kind) (.int .i64 p.level) (.int .i64 p.right) (.string (M.bs p.high)) (.slice a1 n1 c1))
                have Ix := hid (SC.mk (other6 I.out.b0 (show w.heap.size ≠ g8 by omega) (.int .i64 p.lsn) (.int .i64 p.kind) (.int .i64 p.level) (.int .i64 p.right) (.string (M.bs p.high)) (.slice a1 n1 c1)) (other6 I.out.b1 (show w.heap.size + 1 ≠ g8 by omega) (.int .i64 p.lsn) (.int .i64 p.kind) (.int .i64 p.level) (.int .i64 p.right) (.string (M.bs p.high)) (.slice a1 n1 c1)) (other6 I.out.b2 (show w.heap.size + 1 + 1 ≠ g8 by omega) (.int .i64 p.lsn) (.int .i64 p.kind) (.int .i64 p.level) (.int .i64 p.right) (.string (M.bs p.high)) (.slice a1 n1 c1)) (bel6 I.out.below (show w.heap.size ≤ g8 by omega) (.int .i64 p.lsn) (.int .i64 p.kind) (.int .i64 p.level) (.int .i64 p.right) (.string (M.bs p.high)) (.slice a1 n1 c1)))
                refine HX.out _ _ ⟨(fun h => by cases (Eq.trans (Eq.symm (show _ = true by kernel_rfl)) h)), ?_⟩
                clear HX d0 d1 d2 d3 d4 d5 f0 f1 f2 f3 f4 f5 I N8 N9
                generalize ((((((w24.setCell ⟨g8, 0, none⟩ (.int .i64 p.lsn)).setCell ⟨g8, 1, none⟩ (.int .i64 p.kind)).setCell ⟨g8, 2, none⟩ (.int .i64 p.level)).setCell ⟨g8, 3, none⟩ (.int .i64 p.right)).setCell ⟨g8, 4, none⟩ (.string (M.bs p.high))).setCell ⟨g8, 5, none⟩ (.slice a1 n1 c1)) = w25 at *
                have I := Ix
                have N8 := N8x
                have N9 := N9x
                clear Ix N8x N9x
                try simp only [Act.put]
                obtain ⟨d0, d1, d2, d3, d4, d5⟩ := blk_cells N9.out
                have f0 := N9.out.frozen 0
                have f1 := N9.out.frozen 1
                have f2 := N9.out.frozen 2
                have f3 := N9.out.frozen 3
                have f4 := N9.out.frozen 4
                have f5 := N9.out.frozen 5
                refine until_step (j := 15) (by kernel_rfl) rfl (by kernel_rfl) (fun KX hKX => ?_)
                have HX := hid hKX
                clear hKX
                go_simp
                have N9x := hid (set6 N9.out (.int .i64 p.lsn) (.int .i64 p.kind) (.int .i64 p.level) (.int .i64 p.right) (.string (M.bs p.high)) (.slice a2 n2 c2))
                have N8x := hid (other6 N8.out (show g8 ≠ g9 by omega) (.int .i64 p.lsn) (.int .i64 p.kind) (.int .i64 p.level) (.int .i64 p.right) (.string (M.bs p.high)) (.slice a2 n2 c2))
                have Ix := hid (SC.mk (other6 I.out.b0 (show w.heap.size ≠ g9 by omega) (.int .i64 p.lsn) (.int .i64 p.kind) (.int .i64 p.level) (.int .i64 p.right) (.string (M.bs p.high)) (.slice a2 n2 c2)) (other6 I.out.b1 (show w.heap.size + 1 ≠ g9 by omega) (.int .i64 p.lsn) (.int .i64 p.kind) (.int .i64 p.level) (.int .i64 p.right) (.string (M.bs p.high)) (.slice a2 n2 c2)) (other6 I.out.b2 (show w.heap.size + 1 + 1 ≠ g9 by omega) (.int .i64 p.lsn) (.int .i64 p.kind) (.int .i64 p.level) (.int .i64 p.right) (.string (M.bs p.high)) (.slice a2 n2 c2)) (bel6 I.out.below (show w.heap.size ≤ g9 by omega) (.int .i64 p.lsn) (.int .i64 p.kind) (.int .i64 p.level) (.int .i64 p.right) (.string (M.bs p.high)) (.slice a2 n2 c2)))
                refine HX.out _ _ ⟨(fun h => by cases (Eq.trans (Eq.symm (show _ = true by kernel_rfl)) h)), ?_⟩
                clear HX d0 d1 d2 d3 d4 d5 f0 f1 f2 f3 f4 f5 I N9 N8
                generalize ((((((w25.setCell ⟨g9, 0, none⟩ (.int .i64 p.lsn)).setCell ⟨g9, 1, none⟩ (.int .i64 p.kind)).setCell ⟨g9, 2, none⟩ (.int .i64 p.level)).setCell ⟨g9, 3, none⟩ (.int .i64 p.right)).setCell ⟨g9, 4, none⟩ (.string (M.bs p.high))).setCell ⟨g9, 5, none⟩ (.slice a2 n2 c2)) = w26 at *
                have I := Ix
                have N9 := N9x
                have N8 := N8x
                clear Ix N9x N8x
                refine until_done (by kernel_rfl) ⟨rfl, g8, g9, ?_, by omega, by omega, by omega, N8.out, N9.out, I.out⟩ _
                kernel_rfl
            · skip
              refine wpOp_step rfl (fun KX hKX => ?_)
              have HX := hid hKX
              clear hKX
              go_simp
              have kk : Bel w21 (w21.alloc (.cells #[.int .i64 0, .int .i64 0, .int .i64 0, .int .i64 0, .string ⟨#[]⟩, .slice none 0 0] 33)) := Bel.al (Below.refl _ _) _
              obtain ⟨g8, hg8⟩ : ∃ g, g = w21.heap.size := ⟨_, rfl⟩
              have Zg8 := I.out.b2.lt
              rw [← hg8] at Zg8
              have N8 : Hid (Blk (w21.alloc (.cells #[.int .i64 0, .int .i64 0, .int .i64 0, .int .i64 0, .string ⟨#[]⟩, .slice none 0 0] 33)) g8 #[.int .i64 0, .int .i64 0, .int .i64 0, .int .i64 0, .string ⟨#[]⟩, .slice none 0 0] 33) := by rw [hg8]; exact Blk.new _ _ _
              have Ix := hid (I.out.bel kk)
              have N9x := hid (N9.out.below kk N9.out.lt)
              have hneN9 := N9.out.lt
              rw [← hg8] at hneN9
              refine HX.out _ _ ⟨fun _ => Ix.out.b0, ?_⟩
              rw [← hg8]
              clear HX kk I hg8 N9
              have I := Ix
              clear Ix
              have N9 := N9x
              clear N9x
              generalize w21.alloc (.cells #[.int .i64 0, .int .i64 0, .int .i64 0, .int .i64 0, .string ⟨#[]⟩, .slice none 0 0] 33) = w22 at *
              try simp only [Act.put]
              refine until_step (j := 5) (by kernel_rfl) rfl (by kernel_rfl) (fun KX hKX => ?_)
              have HX := hid hKX
              clear hKX
              go_simp
              refine (with_any p (some ⟨b, off, none⟩) p.es.length cap a1 n1 c1 w22).mono ?_
              rintro e w23 ⟨rfl, kk⟩
              have Ix := hid (I.out.bel kk)
              have N8x := hid (N8.out.below kk N8.out.lt)
              have N9x := hid (N9.out.below kk N9.out.lt)
              refine HX.out _ _ ⟨fun _ => Ix.out.b0, ?_⟩
              clear HX kk I N8 N9
              have I := Ix
              clear Ix
              have N8 := N8x
              clear N8x
              have N9 := N9x
              clear N9x
              try simp only [Act.put]
              refine until_step (j := 11) (by kernel_rfl) rfl (by kernel_rfl) (fun KX hKX => ?_)
              have HX := hid hKX
              clear hKX
              go_simp
              refine (with_any p (some ⟨b, off, none⟩) p.es.length cap a2 n2 c2 w23).mono ?_
              rintro e w24 ⟨rfl, kk⟩
              have Ix := hid (I.out.bel kk)
              have N8x := hid (N8.out.below kk N8.out.lt)
              have N9x := hid (N9.out.below kk N9.out.lt)
              refine HX.out _ _ ⟨fun _ => Ix.out.b0, ?_⟩
              clear HX kk I N8 N9
              have I := Ix
              clear Ix
              have N8 := N8x
              clear N8x
              have N9 := N9x
              clear N9x
              try simp only [Act.put]
              obtain ⟨d0, d1, d2, d3, d4, d5⟩ := blk_cells N8.out
              have f0 := N8.out.frozen 0
              have f1 := N8.out.frozen 1
              have f2 := N8.out.frozen 2
              have f3 := N8.out.frozen 3
              have f4 := N8.out.frozen 4
              have f5 := N8.out.frozen 5
              refine until_step (j := 14) (by kernel_rfl) rfl (by kernel_rfl) (fun KX hKX => ?_)
              have HX := hid hKX
              clear hKX
              go_simp
              have N8x := hid (set6 N8.out (.int .i64 p.lsn) (.int .i64 p.kind) (.int .i64 p.level) (.int .i64 p.right) (.string (M.bs p.high)) (.slice a1 n1 c1))
              have N9x := hid (other6 N9.out (show g9 ≠ g8 by omega) (.int .i64 p.lsn) (.int .i64 p.kind) (.int .i64 p.level) (.int .i64 p.right) (.string (M.bs p.high)) (.slice a1 n1 c1))
              have Ix := hid (SC.mk (other6 I.out.b0 (show w.heap.size ≠ g8 by omega) (.int .i64 p.lsn) (.int .i64 p.kind) (.int .i64 p.level) (.int .i64 p.right) (.string (M.bs p.high)) (.slice a1 n1 c1)) (other6 I.out.b1 (show w.heap.size + 1 ≠ g8 by omega) (.int .i64 p.lsn) (.int .i64 p.kind) (.int .i64 p.level) (.int .i64 p.right) (.string (M.bs p.high)) (.slice a1 n1 c1)) (other6 I.out.b2 (show w.heap.size + 1 + 1 ≠ g8 by omega) (.int .i64 p.lsn) (.int .i64 p.kind) (.int .i64 p.level) (.int .i64 p.right) (.string (M.bs p.high)) (.slice a1 n1 c1)) (bel6 I.out.below (show w.heap.size ≤ g8 by omega) (.int .i64 p.lsn) (.int .i64 p.kind) (.int .i64 p.level) (.int .i64 p.right) (.string (M.bs p.high)) (.slice a1 n1 c1)))
              refine HX.out _ _ ⟨(fun h => by cases (Eq.trans (Eq.symm (show _ = true by kernel_rfl)) h)), ?_⟩
              clear HX d0 d1 d2 d3 d4 d5 f0 f1 f2 f3 f4 f5 I N8 N9
              generalize ((((((w24.setCell ⟨g8, 0, none⟩ (.int .i64 p.lsn)).setCell ⟨g8, 1, none⟩ (.int .i64 p.kind)).setCell ⟨g8, 2, none⟩ (.int .i64 p.level)).setCell ⟨g8, 3, none⟩ (.int .i64 p.right)).setCell ⟨g8, 4, none⟩ (.string (M.bs p.high))).setCell ⟨g8, 5, none⟩ (.slice a1 n1 c1)) = w25 at *
              have I := Ix
              have N8 := N8x
              have N9 := N9x
              clear Ix N8x N9x
              try simp only [Act.put]
              obtain ⟨d0, d1, d2, d3, d4, d5⟩ := blk_cells N9.out
              have f0 := N9.out.frozen 0
              have f1 := N9.out.frozen 1
              have f2 := N9.out.frozen 2
              have f3 := N9.out.frozen 3
              have f4 := N9.out.frozen 4
              have f5 := N9.out.frozen 5
              refine until_step (j := 15) (by kernel_rfl) rfl (by kernel_rfl) (fun KX hKX => ?_)
              have HX := hid hKX
              clear hKX
              go_simp
              have N9x := hid (set6 N9.out (.int .i64 p.lsn) (.int .i64 p.kind) (.int .i64 p.level) (.int .i64 p.right) (.string (M.bs p.high)) (.slice a2 n2 c2))
              have N8x := hid (other6 N8.out (show g8 ≠ g9 by omega) (.int .i64 p.lsn) (.int .i64 p.kind) (.int .i64 p.level) (.int .i64 p.right) (.string (M.bs p.high)) (.slice a2 n2 c2))
              have Ix := hid (SC.mk (other6 I.out.b0 (show w.heap.size ≠ g9 by omega) (.int .i64 p.lsn) (.int .i64 p.kind) (.int .i64 p.level) (.int .i64 p.right) (.string (M.bs p.high)) (.slice a2 n2 c2)) (other6 I.out.b1 (show w.heap.size + 1 ≠ g9 by omega) (.int .i64 p.lsn) (.int .i64 p.kind) (.int .i64 p.level) (.int .i64 p.right) (.string (M.bs p.high)) (.slice a2 n2 c2)) (other6 I.out.b2 (show w.heap.size + 1 + 1 ≠ g9 by omega) (.int .i64 p.lsn) (.int .i64 p.kind) (.int .i64 p.level) (.int .i64 p.right) (.string (M.bs p.high)) (.slice a2 n2 c2)) (bel6 I.out.below (show w.heap.size ≤ g9 by omega) (.int .i64 p.lsn) (.int .i64 p.kind) (.int .i64 p.level) (.int .i64 p.right) (.string (M.bs p.high)) (.slice a2 n2 c2)))
              refine HX.out _ _ ⟨(fun h => by cases (Eq.trans (Eq.symm (show _ = true by kernel_rfl)) h)), ?_⟩
              clear HX d0 d1 d2 d3 d4 d5 f0 f1 f2 f3 f4 f5 I N9 N8
              generalize ((((((w25.setCell ⟨g9, 0, none⟩ (.int .i64 p.lsn)).setCell ⟨g9, 1, none⟩ (.int .i64 p.kind)).setCell ⟨g9, 2, none⟩ (.int .i64 p.level)).setCell ⟨g9, 3, none⟩ (.int .i64 p.right)).setCell ⟨g9, 4, none⟩ (.string (M.bs p.high))).setCell ⟨g9, 5, none⟩ (.slice a2 n2 c2)) = w26 at *
              have I := Ix
              have N9 := N9x
              have N8 := N8x
              clear Ix N9x N8x
              refine until_done (by kernel_rfl) ⟨rfl, g8, g9, ?_, by omega, by omega, by omega, N8.out, N9.out, I.out⟩ _
              kernel_rfl
        rintro g8 g9 w12 ⟨hne, hn8, hn9, k8, k9, ki⟩
        have L8 := hid k8
        have L9 := hid k9
        have LI := hid ki
        clear k8 k9 ki cut rst HI2
        refine HL.out _ _ ?_
        clear HL
        try simp only [Act.put]
        obtain ⟨s0, s1, s2, s3, s4, s5⟩ := blk_cells LI.out.b0
        obtain ⟨u0, u1, u2, u3, u4, u5⟩ := blk_cells L8.out
        have v3 := L8.out.frozen 3
        have v4 := L8.out.frozen 4
        have e0 := (HROW.out w12 LI.out.below i hin).1
        have hii2 : (i : Int) < (p.es.length : Int) := by omega
        go_wp2_with fail
        have M8 : Hid (Blk ((w12.setCell ⟨g8, 4, none⟩ (.string (M.bs (p.es[i]'hin).1))).setCell ⟨g8, 3, none⟩ (.int .i64 r)) g8 #[.int .i64 p.lsn, .int .i64 p.kind, .int .i64 p.level, .int .i64 r, .string (M.bs (p.es[i]'hin).1), .slice a1 n1 c1] 33) := hid (by
          have z := (L8.out.set 4 (.string (M.bs (p.es[i]'hin).1))).set 3 (.int .i64 r)
          simpa using z)
        have M9 : Hid (Blk ((w12.setCell ⟨g8, 4, none⟩ (.string (M.bs (p.es[i]'hin).1))).setCell ⟨g8, 3, none⟩ (.int .i64 r)) g9 #[.int .i64 p.lsn, .int .i64 p.kind, .int .i64 p.level, .int .i64 p.right, .string (M.bs p.high), .slice a2 n2 c2] 33) := blk_other (blk_other L9.out (fun e => hne e.symm) _ _) (fun e => hne e.symm) _ _
        have MI := hid ((LI.out.other (B := g8) hn8 4 (.string (M.bs (p.es[i]'hin).1))).other (B := g8) hn8 3 (.int .i64 r))
        clear s0 s1 s2 s3 s4 s5 u0 u1 u2 u3 u4 u5 v3 v4 e0 L8 L9 LI hii2
        generalize (w12.setCell ⟨g8, 4, none⟩ (.string (M.bs (p.es[i]'hin).1))).setCell ⟨g8, 3, none⟩ (.int .i64 r) = w13 at *
        refine wp_last fun KL hKL => ?_
        have HL := hid hKL
        clear hKL
        refine region_until (S := fun W : World => Blk W g8 #[.int .i64 p.lsn, .int .i64 p.kind, .int .i64 p.level, .int .i64 r, .string (M.bs (p.es[i]'hin).1), .slice a1 n1 c1] 33 ∧ Blk W g9 #[.int .i64 p.lsn, .int .i64 p.kind, .int .i64 p.level, .int .i64 p.right, .string (M.bs p.high), .slice a2 n2 c2] 33) (m := 4) (by kernel_rfl) ?_
        have b12 : Bel w13 w13.drew := Bel.dr (Below.refl _ _)
        have N8 : Hid (Blk w13.drew g8 #[.int .i64 p.lsn, .int .i64 p.kind, .int .i64 p.level, .int .i64 r, .string (M.bs (p.es[i]'hin).1), .slice a1 n1 c1] 33) := M8.out
        have N9 : Hid (Blk w13.drew g9 #[.int .i64 p.lsn, .int .i64 p.kind, .int .i64 p.level, .int .i64 p.right, .string (M.bs p.high), .slice a2 n2 c2] 33) := M9.out
        have NI := hid (MI.out.bel b12)
        clear M8 M9 MI b12
        generalize w13.drew = w14 at *
        have hS := And.intro N8.out N9.out
        refine take_next (i := 0) (.agg #[.int .i64 p.lsn, .int .i64 p.kind, .int .i64 p.level, .int .i64 r, .string (M.bs (p.es[i]'hin).1), .slice a1 n1 c1]) [2, 3, 4] (by kernel_rfl) (by kernel_rfl) rfl (by kernel_rfl) (by kernel_rfl) (by kernel_rfl) (by kernel_rfl) (fun _ _ _ h => absurd h.1 (by simp)) (Or.inl ⟨by rfl, fun w' hSw => by obtain ⟨s0, s1, s2, s3, s4, s5⟩ := blk_cells hSw.1; go_simp⟩) hS ?_
        try simp only [Act.put]
        refine take_next (i := 1) (.agg #[.int .i64 p.lsn, .int .i64 p.kind, .int .i64 p.level, .int .i64 p.right, .string (M.bs p.high), .slice a2 n2 c2]) [3, 4] (by kernel_rfl) (by kernel_rfl) rfl (by kernel_rfl) (by kernel_rfl) (by kernel_rfl) (by kernel_rfl) (fun _ _ _ h => absurd h.1 (by simp)) (Or.inl ⟨by rfl, fun w' hSw => by obtain ⟨s0, s1, s2, s3, s4, s5⟩ := blk_cells hSw.2; go_simp⟩) hS ?_
        try simp only [Act.put]
        obtain ⟨t0, t1, t2, t3, t4, t5⟩ := blk_cells NI.out.b1
        have f0 := NI.out.b1.frozen 0
        have f1 := NI.out.b1.frozen 1
        have f2 := NI.out.b1.frozen 2
        have f3 := NI.out.b1.frozen 3
        have f4 := NI.out.b1.frozen 4
        have f5 := NI.out.b1.frozen 5
        refine until_step (j := 2) (by kernel_rfl) rfl (by kernel_rfl) (fun KX hKX => ?_)
        have HX := hid hKX
        clear hKX
        go_simp
        have V1 := hid (set6 NI.out.b1 (.int .i64 p.lsn) (.int .i64 p.kind) (.int .i64 p.level) (.int .i64 r) (.string (M.bs (p.es[i]'hin).1)) (.slice a1 n1 c1))
        have V2 := hid (other6 NI.out.b2 (show w.heap.size + 1 + 1 ≠ w.heap.size + 1 by omega) (.int .i64 p.lsn) (.int .i64 p.kind) (.int .i64 p.level) (.int .i64 r) (.string (M.bs (p.es[i]'hin).1)) (.slice a1 n1 c1))
        have VB := hid (bel6 NI.out.below (show w.heap.size ≤ w.heap.size + 1 by omega) (.int .i64 p.lsn) (.int .i64 p.kind) (.int .i64 p.level) (.int .i64 r) (.string (M.bs (p.es[i]'hin).1)) (.slice a1 n1 c1))
        have VS : Hid ((fun W : World => Blk W g8 #[.int .i64 p.lsn, .int .i64 p.kind, .int .i64 p.level, .int .i64 r, .string (M.bs (p.es[i]'hin).1), .slice a1 n1 c1] 33 ∧ Blk W g9 #[.int .i64 p.lsn, .int .i64 p.kind, .int .i64 p.level, .int .i64 p.right, .string (M.bs p.high), .slice a2 n2 c2] 33) ((((((w14.setCell ⟨w.heap.size + 1, 0, none⟩ (.int .i64 p.lsn)).setCell ⟨w.heap.size + 1, 1, none⟩ (.int .i64 p.kind)).setCell ⟨w.heap.size + 1, 2, none⟩ (.int .i64 p.level)).setCell ⟨w.heap.size + 1, 3, none⟩ (.int .i64 r)).setCell ⟨w.heap.size + 1, 4, none⟩ (.string (M.bs (p.es[i]'hin).1))).setCell ⟨w.heap.size + 1, 5, none⟩ (.slice a1 n1 c1))) := And.intro (other6 N8.out (by omega) (.int .i64 p.lsn) (.int .i64 p.kind) (.int .i64 p.level) (.int .i64 r) (.string (M.bs (p.es[i]'hin).1)) (.slice a1 n1 c1)) (other6 N9.out (by omega) (.int .i64 p.lsn) (.int .i64 p.kind) (.int .i64 p.level) (.int .i64 r) (.string (M.bs (p.es[i]'hin).1)) (.slice a1 n1 c1))
        refine HX.out _ _ ⟨fun _ => VS.out, ?_⟩
        clear HX t0 t1 t2 t3 t4 t5 f0 f1 f2 f3 f4 f5 NI N8 N9 hS
        generalize ((((((w14.setCell ⟨w.heap.size + 1, 0, none⟩ (.int .i64 p.lsn)).setCell ⟨w.heap.size + 1, 1, none⟩ (.int .i64 p.kind)).setCell ⟨w.heap.size + 1, 2, none⟩ (.int .i64 p.level)).setCell ⟨w.heap.size + 1, 3, none⟩ (.int .i64 r)).setCell ⟨w.heap.size + 1, 4, none⟩ (.string (M.bs (p.es[i]'hin).1))).setCell ⟨w.heap.size + 1, 5, none⟩ (.slice a1 n1 c1)) = w15 at *
        try simp only [Act.put]
        obtain ⟨t0, t1, t2, t3, t4, t5⟩ := blk_cells V2.out
        have f0 := V2.out.frozen 0
        have f1 := V2.out.frozen 1
        have f2 := V2.out.frozen 2
        have f3 := V2.out.frozen 3
        have f4 := V2.out.frozen 4
        have f5 := V2.out.frozen 5
        refine until_step (j := 3) (by kernel_rfl) rfl (by kernel_rfl) (fun KX hKX => ?_)
        have HX := hid hKX
        clear hKX
        go_simp
        have Y1 := hid (other6 V1.out (show w.heap.size + 1 ≠ w.heap.size + 1 + 1 by omega) (.int .i64 p.lsn) (.int .i64 p.kind) (.int .i64 p.level) (.int .i64 p.right) (.string (M.bs p.high)) (.slice a2 n2 c2))
        have Y2 := hid (set6 V2.out (.int .i64 p.lsn) (.int .i64 p.kind) (.int .i64 p.level) (.int .i64 p.right) (.string (M.bs p.high)) (.slice a2 n2 c2))
        have YB := hid (bel6 VB.out (show w.heap.size ≤ w.heap.size + 1 + 1 by omega) (.int .i64 p.lsn) (.int .i64 p.kind) (.int .i64 p.level) (.int .i64 p.right) (.string (M.bs p.high)) (.slice a2 n2 c2))
        have YS : Hid ((fun W : World => Blk W g8 #[.int .i64 p.lsn, .int .i64 p.kind, .int .i64 p.level, .int .i64 r, .string (M.bs (p.es[i]'hin).1), .slice a1 n1 c1] 33 ∧ Blk W g9 #[.int .i64 p.lsn, .int .i64 p.kind, .int .i64 p.level, .int .i64 p.right, .string (M.bs p.high), .slice a2 n2 c2] 33) ((((((w15.setCell ⟨w.heap.size + 1 + 1, 0, none⟩ (.int .i64 p.lsn)).setCell ⟨w.heap.size + 1 + 1, 1, none⟩ (.int .i64 p.kind)).setCell ⟨w.heap.size + 1 + 1, 2, none⟩ (.int .i64 p.level)).setCell ⟨w.heap.size + 1 + 1, 3, none⟩ (.int .i64 p.right)).setCell ⟨w.heap.size + 1 + 1, 4, none⟩ (.string (M.bs p.high))).setCell ⟨w.heap.size + 1 + 1, 5, none⟩ (.slice a2 n2 c2))) := And.intro (other6 VS.out.1 (by omega) (.int .i64 p.lsn) (.int .i64 p.kind) (.int .i64 p.level) (.int .i64 p.right) (.string (M.bs p.high)) (.slice a2 n2 c2)) (other6 VS.out.2 (by omega) (.int .i64 p.lsn) (.int .i64 p.kind) (.int .i64 p.level) (.int .i64 p.right) (.string (M.bs p.high)) (.slice a2 n2 c2))
        refine HX.out _ _ ⟨fun _ => YS.out, ?_⟩
        clear HX t0 t1 t2 t3 t4 t5 f0 f1 f2 f3 f4 f5 V1 V2 VB VS
        generalize ((((((w15.setCell ⟨w.heap.size + 1 + 1, 0, none⟩ (.int .i64 p.lsn)).setCell ⟨w.heap.size + 1 + 1, 1, none⟩ (.int .i64 p.kind)).setCell ⟨w.heap.size + 1 + 1, 2, none⟩ (.int .i64 p.level)).setCell ⟨w.heap.size + 1 + 1, 3, none⟩ (.int .i64 p.right)).setCell ⟨w.heap.size + 1 + 1, 4, none⟩ (.string (M.bs p.high))).setCell ⟨w.heap.size + 1 + 1, 5, none⟩ (.slice a2 n2 c2)) = w16 at *
        try simp only [Act.put]
        refine until_step (j := 4) (by kernel_rfl) rfl (by kernel_rfl) (fun KX hKX => ?_)
        have HX := hid hKX
        clear hKX
        go_simp
        refine HX.out _ _ ⟨(fun h => by cases (Eq.trans (Eq.symm (show _ = true by kernel_rfl)) h)), ?_⟩
        clear HX
        try simp only [Act.put]
        refine until_done (by kernel_rfl) ⟨rfl, ?_⟩ _
        refine HL.out _ _ ?_
        clear HL
        go_wp2_with fail
        refine bodyPost_ret (results_cells3 (p := 4) (q := 5) (ty := 33) (u := 6) rfl _ _ (w.heap.size + 1) _ (w.heap.size + 1 + 1) _ rfl rfl (load33 Y1.out rfl) (load33 Y2.out rfl)) rfl ?_
        exact ⟨i, hin, ⟨hi1, hi2, HJ.out, HE.out⟩, _, _, by rw [List.getElem?_eq_getElem hin]; rfl, HVC.out _ YB.out, HVR.out _ YB.out, YB.out⟩
    · have hii : ¬ (i : Int) < (p.es.length : Int) - 1 := by omega
      have hid' : decide ((i : Int) < (p.es.length : Int) - 1) = false := decide_eq_false hii
      go_wp2_with fail
      go_quiet (fail)
      rename_i nq
      have HI2 := hid (HI.out.bel (below_drewN (Below.refl _ _) nq))
      have HE : Hid (i = p.es.length - 1 ∨ M.szs (p.es.drop i) ≤ M.szs (p.es.take i)) := .inl (by omega)
      clear t0 t1 t2 t3 t4 t5 HI hii hid' hlt hw1
      go_wp2_with fail
      generalize wr.drewN nq = w2 at *
      obtain ⟨a1, n1, c1, cut, VC⟩ := cutV HVS.out i (by omega)
      obtain ⟨a2, n2, c2, rst, VR⟩ := restV HVS.out i (by omega)
      have HVC := hid VC
      have HVR := hid VR
      clear VC VR
      have hin : i < p.es.length := by omega
      refine wp_last fun KL hKL => ?_
      have HL := hid hKL
      clear hKL
      refine wp_join2 (fun g8 g9 a => ((((((((((((((a.put (some 45) (.agg #[.int .i64 p.lsn, .int .i64 p.kind, .int .i64 p.level, .int .i64 p.right, .string (M.bs p.high), .slice (some ⟨b, off, none⟩) p.es.length cap])).put (some 46) (.pointer (some ⟨w.heap.size, 5, none⟩))).put (some 47) (.slice (some ⟨b, off, none⟩) p.es.length cap)).put (some 48) (.int .i64 (i : Nat))).put (some 49) (.slice a1 n1 c1)).put (some 50) (.agg #[.int .i64 p.lsn, .int .i64 p.kind, .int .i64 p.level, .int .i64 p.right, .string (M.bs p.high), .slice a1 n1 c1])).put (some 51) (.agg #[.int .i64 p.lsn, .int .i64 p.kind, .int .i64 p.level, .int .i64 p.right, .string (M.bs p.high), .slice (some ⟨b, off, none⟩) p.es.length cap])).put (some 52) (.pointer (some ⟨w.heap.size, 5, none⟩))).put (some 53) (.slice (some ⟨b, off, none⟩) p.es.length cap)).put (some 54) (.int .i64 (i : Nat))).put (some 55) (.slice a2 n2 c2)).put (some 56) (.agg #[.int .i64 p.lsn, .int .i64 p.kind, .int .i64 p.level, .int .i64 p.right, .string (M.bs p.high), .slice a2 n2 c2])).put (some 8) (.pointer (some ⟨g8, 0, none⟩))).put (some 9) (.pointer (some ⟨g9, 0, none⟩)))) (fun g8 g9 W => g8 ≠ g9 ∧ w.heap.size + 1 + 1 < g8 ∧ w.heap.size + 1 + 1 < g9 ∧ Blk W g8 #[.int .i64 p.lsn, .int .i64 p.kind, .int .i64 p.level, .int .i64 p.right, .string (M.bs p.high), .slice a1 n1 c1] 33 ∧ Blk W g9 #[.int .i64 p.lsn, .int .i64 p.kind, .int .i64 p.level, .int .i64 p.right, .string (M.bs p.high), .slice a2 n2 c2] 33 ∧ SC w W #[.int .i64 p.lsn, .int .i64 p.kind, .int .i64 p.level, .int .i64 p.right, .string (M.bs p.high), .slice (some ⟨b, off, none⟩) p.es.length cap]) ?_ ?_
      · refine region_until (S := fun W : World => Blk W w.heap.size #[.int .i64 p.lsn, .int .i64 p.kind, .int .i64 p.level, .int .i64 p.right, .string (M.bs p.high), .slice (some ⟨b, off, none⟩) p.es.length cap] 33) (m := 11) (by kernel_rfl) ?_
        have I5 := hid (HI2.out.bel (Bel.dr (Below.refl _ _)))
        generalize w2.drew = w5 at *
        have hS := I5.out.b0
        refine take_next (i := 0) (.agg #[.int .i64 p.lsn, .int .i64 p.kind, .int .i64 p.level, .int .i64 p.right, .string (M.bs p.high), .slice (some ⟨b, off, none⟩) p.es.length cap]) [5, 11] (by kernel_rfl) (by kernel_rfl) rfl (by kernel_rfl) (by kernel_rfl) (by kernel_rfl) (by kernel_rfl) (fun _ _ _ h => absurd h.1 (by simp)) (Or.inl ⟨by rfl, fun w' hSw => by obtain ⟨s0, s1, s2, s3, s4, s5⟩ := blk_cells hSw; go_simp⟩) hS ?_
        try simp only [Act.put]
        refine take_next (i := 1) (.pointer (some ⟨w.heap.size, 5, none⟩)) [2, 4, 5, 11] (by kernel_rfl) (by kernel_rfl) rfl (by kernel_rfl) (by kernel_rfl) (by kernel_rfl) (by kernel_rfl) (fun _ _ _ h => absurd h.1 (by simp)) (Or.inl ⟨by rfl, fun w' hSw => by go_simp⟩) hS ?_
        try simp only [Act.put]
        refine take_next (i := 2) (.slice (some ⟨b, off, none⟩) p.es.length cap) [4, 5, 11] (by kernel_rfl) (by kernel_rfl) rfl (by kernel_rfl) (by kernel_rfl) (by kernel_rfl) (by kernel_rfl) (fun _ _ _ h => absurd h.1 (by simp)) (Or.inl ⟨by rfl, fun w' hSw => by obtain ⟨s0, s1, s2, s3, s4, s5⟩ := blk_cells hSw; go_simp⟩) hS ?_
        try simp only [Act.put]
        refine take_next (i := 3) (.int .i64 (i : Nat)) [4, 5, 11] (by kernel_rfl) (by kernel_rfl) rfl (by kernel_rfl) (by kernel_rfl) (by kernel_rfl) (by kernel_rfl) (fun _ _ _ h => absurd h.1 (by simp)) (Or.inl ⟨by rfl, fun w' hSw => by go_simp⟩) hS ?_
        try simp only [Act.put]
        refine take_next (i := 4) (.slice a1 n1 c1) [5, 11] (by kernel_rfl) (by kernel_rfl) rfl (by kernel_rfl) (by kernel_rfl) (by kernel_rfl) (by kernel_rfl) (fun _ _ _ h => absurd h.1 (by simp)) (Or.inl ⟨by rfl, fun w' hSw => by go_simp⟩) hS ?_
        try simp only [Act.put]
        refine take_next (i := 6) (.agg #[.int .i64 p.lsn, .int .i64 p.kind, .int .i64 p.level, .int .i64 p.right, .string (M.bs p.high), .slice (some ⟨b, off, none⟩) p.es.length cap]) [11] (by kernel_rfl) (by kernel_rfl) rfl (by kernel_rfl) (by kernel_rfl) (by kernel_rfl) (by kernel_rfl) (fun _ _ _ h => absurd h.1 (by simp)) (Or.inl ⟨by rfl, fun w' hSw => by obtain ⟨s0, s1, s2, s3, s4, s5⟩ := blk_cells hSw; go_simp⟩) hS ?_
        try simp only [Act.put]
        refine take_next (i := 7) (.pointer (some ⟨w.heap.size, 5, none⟩)) [8, 10, 11] (by kernel_rfl) (by kernel_rfl) rfl (by kernel_rfl) (by kernel_rfl) (by kernel_rfl) (by kernel_rfl) (fun _ _ _ h => absurd h.1 (by simp)) (Or.inl ⟨by rfl, fun w' hSw => by go_simp⟩) hS ?_
        try simp only [Act.put]
        refine take_next (i := 8) (.slice (some ⟨b, off, none⟩) p.es.length cap) [10, 11] (by kernel_rfl) (by kernel_rfl) rfl (by kernel_rfl) (by kernel_rfl) (by kernel_rfl) (by kernel_rfl) (fun _ _ _ h => absurd h.1 (by simp)) (Or.inl ⟨by rfl, fun w' hSw => by obtain ⟨s0, s1, s2, s3, s4, s5⟩ := blk_cells hSw; go_simp⟩) hS ?_
        try simp only [Act.put]
        refine take_next (i := 9) (.int .i64 (i : Nat)) [10, 11] (by kernel_rfl) (by kernel_rfl) rfl (by kernel_rfl) (by kernel_rfl) (by kernel_rfl) (by kernel_rfl) (fun _ _ _ h => absurd h.1 (by simp)) (Or.inl ⟨by rfl, fun w' hSw => by go_simp⟩) hS ?_
        try simp only [Act.put]
        refine take_next (i := 10) (.slice a2 n2 c2) [11] (by kernel_rfl) (by kernel_rfl) rfl (by kernel_rfl) (by kernel_rfl) (by kernel_rfl) (by kernel_rfl) (fun _ _ _ h => absurd h.1 (by simp)) (Or.inl ⟨by rfl, fun w' hSw => by go_simp⟩) hS ?_
        try simp only [Act.put]
        clear hS
        have I := I5
        clear I5
        refine until_ready (rs := [5, 12, 13]) (by kernel_rfl) (by simp) ?_
        intro jj hjj
        simp only [List.mem_cons, List.not_mem_nil, or_false] at hjj
        rcases hjj with rfl | rfl | rfl
        · skip
          refine wpOp_step rfl (fun KX hKX => ?_)
          have HX := hid hKX
          clear hKX
          go_simp
          refine (with_any p (some ⟨b, off, none⟩) p.es.length cap a1 n1 c1 w5).mono ?_
          rintro e w21 ⟨rfl, kk⟩
          have Ix := hid (I.out.bel kk)
          refine HX.out _ _ ⟨fun _ => Ix.out.b0, ?_⟩
          clear HX kk I 
          have I := Ix
          clear Ix
          try simp only [Act.put]
          refine until_ready (rs := [11, 12, 13]) (by kernel_rfl) (by simp) ?_
          intro jj hjj
          simp only [List.mem_cons, List.not_mem_nil, or_false] at hjj
          rcases hjj with rfl | rfl | rfl
          · skip
            refine wpOp_step rfl (fun KX hKX => ?_)
            have HX := hid hKX
            clear hKX
            go_simp
            refine (with_any p (some ⟨b, off, none⟩) p.es.length cap a2 n2 c2 w21).mono ?_
            rintro e w22 ⟨rfl, kk⟩
            have Ix := hid (I.out.bel kk)
            refine HX.out _ _ ⟨fun _ => Ix.out.b0, ?_⟩
            clear HX kk I 
            have I := Ix
            clear Ix
            try simp only [Act.put]
            refine until_ready (rs := [12, 13]) (by kernel_rfl) (by simp) ?_
            intro jj hjj
            simp only [List.mem_cons, List.not_mem_nil, or_false] at hjj
            rcases hjj with rfl | rfl
            · skip
              refine wpOp_step rfl (fun KX hKX => ?_)
              have HX := hid hKX
              clear hKX
              go_simp
              have kk : Bel w22 (w22.alloc (.cells #[.int .i64 0, .int .i64 0, .int .i64 0, .int .i64 0, .string ⟨#[]⟩, .slice none 0 0] 33)) := Bel.al (Below.refl _ _) _
              obtain ⟨g8, hg8⟩ : ∃ g, g = w22.heap.size := ⟨_, rfl⟩
              have Zg8 := I.out.b2.lt
              rw [← hg8] at Zg8
              have N8 : Hid (Blk (w22.alloc (.cells #[.int .i64 0, .int .i64 0, .int .i64 0, .int .i64 0, .string ⟨#[]⟩, .slice none 0 0] 33)) g8 #[.int .i64 0, .int .i64 0, .int .i64 0, .int .i64 0, .string ⟨#[]⟩, .slice none 0 0] 33) := by rw [hg8]; exact Blk.new _ _ _
              have Ix := hid (I.out.bel kk)
              refine HX.out _ _ ⟨fun _ => Ix.out.b0, ?_⟩
              rw [← hg8]
              clear HX kk I hg8 
              have I := Ix
              clear Ix
              generalize w22.alloc (.cells #[.int .i64 0, .int .i64 0, .int .i64 0, .int .i64 0, .string ⟨#[]⟩, .slice none 0 0] 33) = w23 at *
              try simp only [Act.put]
              refine until_step (j := 13) (by kernel_rfl) rfl (by kernel_rfl) (fun KX hKX => ?_)
              have HX := hid hKX
              clear hKX
              go_simp
              have kk : Bel w23 (w23.alloc (.cells #[.int .i64 0, .int .i64 0, .int .i64 0, .int .i64 0, .string ⟨#[]⟩, .slice none 0 0] 33)) := Bel.al (Below.refl _ _) _
              obtain ⟨g9, hg9⟩ : ∃ g, g = w23.heap.size := ⟨_, rfl⟩
              have Zg9 := I.out.b2.lt
              rw [← hg9] at Zg9
              have N9 : Hid (Blk (w23.alloc (.cells #[.int .i64 0, .int .i64 0, .int .i64 0, .int .i64 0, .string ⟨#[]⟩, .slice none 0 0] 33)) g9 #[.int .i64 0, .int .i64 0, .int .i64 0, .int .i64 0, .string ⟨#[]⟩, .slice none 0 0] 33) := by rw [hg9]; exact Blk.new _ _ _
              have Ix := hid (I.out.bel kk)
              have N8x := hid (N8.out.below kk N8.out.lt)
              have hneN8 := N8.out.lt
              rw [← hg9] at hneN8
              refine HX.out _ _ ⟨fun _ => Ix.out.b0, ?_⟩
              rw [← hg9]
              clear HX kk I hg9 N8
              have I := Ix
              clear Ix
              have N8 := N8x
              clear N8x
              generalize w23.alloc (.cells #[.int .i64 0, .int .i64 0, .int .i64 0, .int .i64 0, .string ⟨#[]⟩, .slice none 0 0] 33) = w24 at *
              try simp only [Act.put]
              obtain ⟨d0, d1, d2, d3, d4, d5⟩ := blk_cells N8.out
              have f0 := N8.out.frozen 0
              have f1 := N8.out.frozen 1
              have f2 := N8.out.frozen 2
              have f3 := N8.out.frozen 3
              have f4 := N8.out.frozen 4
              have f5 := N8.out.frozen 5
              refine until_step (j := 14) (by kernel_rfl) rfl (by kernel_rfl) (fun KX hKX => ?_)
              have HX := hid hKX
              clear hKX
              go_simp
              have N8x := hid (set6 N8.out (.int .i64 p.lsn) (.int .i64 p.kind) (.int .i64 p.level) (.int .i64 p.right) (.string (M.bs p.high)) (.slice a1 n1 c1))
              have N9x := hid (other6 N9.out (show g9 ≠ g8 by omega) (.int .i64 p.lsn) (.int .i64 p.kind) (.int .i64 p.level) (.int .i64 p.right) (.string (M.bs p.high)) (.slice a1 n1 c1))
              have Ix := hid (SC.mk (other6 I.out.b0 (show w.heap.size ≠ g8 by omega) (.int .i64 p.lsn) (.int .i64 p.kind) (.int .i64 p.level) (.int .i64 p.right) (.string (M.bs p.high)) (.slice a1 n1 c1)) (other6 I.out.b1 (show w.heap.size + 1 ≠ g8 by omega) (.int .i64 p.lsn) (.int .i64 p.kind) (.int .i64 p.level) (.int .i64 p.right) (.string (M.bs p.high)) (.slice a1 n1 c1)) (other6 I.out.b2 (show w.heap.size + 1 + 1 ≠ g8 by omega) (.int .i64 p.lsn) (.int .i64 p.kind) (.int .i64 p.level) (.int .i64 p.right) (.string (M.bs p.high)) (.slice a1 n1 c1)) (bel6 I.out.below (show w.heap.size ≤ g8 by omega) (.int .i64 p.lsn) (.int .i64 p.kind) (.int .i64 p.level) (.int .i64 p.right) (.string (M.bs p.high)) (.slice a1 n1 c1)))
              refine HX.out _ _ ⟨(fun h => by cases (Eq.trans (Eq.symm (show _ = true by kernel_rfl)) h)), ?_⟩
              clear HX d0 d1 d2 d3 d4 d5 f0 f1 f2 f3 f4 f5 I N8 N9
              generalize ((((((w24.setCell ⟨g8, 0, none⟩ (.int .i64 p.lsn)).setCell ⟨g8, 1, none⟩ (.int .i64 p.kind)).setCell ⟨g8, 2, none⟩ (.int .i64 p.level)).setCell ⟨g8, 3, none⟩ (.int .i64 p.right)).setCell ⟨g8, 4, none⟩ (.string (M.bs p.high))).setCell ⟨g8, 5, none⟩ (.slice a1 n1 c1)) = w25 at *
              have I := Ix
              have N8 := N8x
              have N9 := N9x
              clear Ix N8x N9x
              try simp only [Act.put]
              obtain ⟨d0, d1, d2, d3, d4, d5⟩ := blk_cells N9.out
              have f0 := N9.out.frozen 0
              have f1 := N9.out.frozen 1
              have f2 := N9.out.frozen 2
              have f3 := N9.out.frozen 3
              have f4 := N9.out.frozen 4
              have f5 := N9.out.frozen 5
              refine until_step (j := 15) (by kernel_rfl) rfl (by kernel_rfl) (fun KX hKX => ?_)
              have HX := hid hKX
              clear hKX
              go_simp
              have N9x := hid (set6 N9.out (.int .i64 p.lsn) (.int .i64 p.kind) (.int .i64 p.level) (.int .i64 p.right) (.string (M.bs p.high)) (.slice a2 n2 c2))
              have N8x := hid (other6 N8.out (show g8 ≠ g9 by omega) (.int .i64 p.lsn) (.int .i64 p.kind) (.int .i64 p.level) (.int .i64 p.right) (.string (M.bs p.high)) (.slice a2 n2 c2))
              have Ix := hid (SC.mk (other6 I.out.b0 (show w.heap.size ≠ g9 by omega) (.int .i64 p.lsn) (.int .i64 p.kind) (.int .i64 p.level) (.int .i64 p.right) (.string (M.bs p.high)) (.slice a2 n2 c2)) (other6 I.out.b1 (show w.heap.size + 1 ≠ g9 by omega) (.int .i64 p.lsn) (.int .i64 p.kind) (.int .i64 p.level) (.int .i64 p.right) (.string (M.bs p.high)) (.slice a2 n2 c2)) (other6 I.out.b2 (show w.heap.size + 1 + 1 ≠ g9 by omega) (.int .i64 p.lsn) (.int .i64 p.kind) (.int .i64 p.level) (.int .i64 p.right) (.string (M.bs p.high)) (.slice a2 n2 c2)) (bel6 I.out.below (show w.heap.size ≤ g9 by omega) (.int .i64 p.lsn) (.int .i64 p.kind) (.int .i64 p.level) (.int .i64 p.right) (.string (M.bs p.high)) (.slice a2 n2 c2)))
              refine HX.out _ _ ⟨(fun h => by cases (Eq.trans (Eq.symm (show _ = true by kernel_rfl)) h)), ?_⟩
              clear HX d0 d1 d2 d3 d4 d5 f0 f1 f2 f3 f4 f5 I N9 N8
              generalize ((((((w25.setCell ⟨g9, 0, none⟩ (.int .i64 p.lsn)).setCell ⟨g9, 1, none⟩ (.int .i64 p.kind)).setCell ⟨g9, 2, none⟩ (.int .i64 p.level)).setCell ⟨g9, 3, none⟩ (.int .i64 p.right)).setCell ⟨g9, 4, none⟩ (.string (M.bs p.high))).setCell ⟨g9, 5, none⟩ (.slice a2 n2 c2)) = w26 at *
              have I := Ix
              have N9 := N9x
              have N8 := N8x
              clear Ix N9x N8x
              refine until_done (by kernel_rfl) ⟨rfl, g8, g9, ?_, by omega, by omega, by omega, N8.out, N9.out, I.out⟩ _
              kernel_rfl
            · skip
              refine wpOp_step rfl (fun KX hKX => ?_)
              have HX := hid hKX
              clear hKX
              go_simp
              have kk : Bel w22 (w22.alloc (.cells #[.int .i64 0, .int .i64 0, .int .i64 0, .int .i64 0, .string ⟨#[]⟩, .slice none 0 0] 33)) := Bel.al (Below.refl _ _) _
              obtain ⟨g9, hg9⟩ : ∃ g, g = w22.heap.size := ⟨_, rfl⟩
              have Zg9 := I.out.b2.lt
              rw [← hg9] at Zg9
              have N9 : Hid (Blk (w22.alloc (.cells #[.int .i64 0, .int .i64 0, .int .i64 0, .int .i64 0, .string ⟨#[]⟩, .slice none 0 0] 33)) g9 #[.int .i64 0, .int .i64 0, .int .i64 0, .int .i64 0, .string ⟨#[]⟩, .slice none 0 0] 33) := by rw [hg9]; exact Blk.new _ _ _
              have Ix := hid (I.out.bel kk)
              refine HX.out _ _ ⟨fun _ => Ix.out.b0, ?_⟩
              rw [← hg9]
              clear HX kk I hg9 
              have I := Ix
              clear Ix
              generalize w22.alloc (.cells #[.int .i64 0, .int .i64 0, .int .i64 0, .int .i64 0, .string ⟨#[]⟩, .slice none 0 0] 33) = w23 at *
              try simp only [Act.put]
              refine until_step (j := 12) (by kernel_rfl) rfl (by kernel_rfl) (fun KX hKX => ?_)
              have HX := hid hKX
              clear hKX
              go_simp
              have kk : Bel w23 (w23.alloc (.cells #[.int .i64 0, .int .i64 0, .int .i64 0, .int .i64 0, .string ⟨#[]⟩, .slice none 0 0] 33)) := Bel.al (Below.refl _ _) _
              obtain ⟨g8, hg8⟩ : ∃ g, g = w23.heap.size := ⟨_, rfl⟩
              have Zg8 := I.out.b2.lt
              rw [← hg8] at Zg8
              have N8 : Hid (Blk (w23.alloc (.cells #[.int .i64 0, .int .i64 0, .int .i64 0, .int .i64 0, .string ⟨#[]⟩, .slice none 0 0] 33)) g8 #[.int .i64 0, .int .i64 0, .int .i64 0, .int .i64 0, .string ⟨#[]⟩, .slice none 0 0] 33) := by rw [hg8]; exact Blk.new _ _ _
              have Ix := hid (I.out.bel kk)
              have N9x := hid (N9.out.below kk N9.out.lt)
              have hneN9 := N9.out.lt
              rw [← hg8] at hneN9
              refine HX.out _ _ ⟨fun _ => Ix.out.b0, ?_⟩
              rw [← hg8]
              clear HX kk I hg8 N9
              have I := Ix
              clear Ix
              have N9 := N9x
              clear N9x
              generalize w23.alloc (.cells #[.int .i64 0, .int .i64 0, .int .i64 0, .int .i64 0, .string ⟨#[]⟩, .slice none 0 0] 33) = w24 at *
              try simp only [Act.put]
              obtain ⟨d0, d1, d2, d3, d4, d5⟩ := blk_cells N8.out
              have f0 := N8.out.frozen 0
              have f1 := N8.out.frozen 1
              have f2 := N8.out.frozen 2
              have f3 := N8.out.frozen 3
              have f4 := N8.out.frozen 4
              have f5 := N8.out.frozen 5
              refine until_step (j := 14) (by kernel_rfl) rfl (by kernel_rfl) (fun KX hKX => ?_)
              have HX := hid hKX
              clear hKX
              go_simp
              have N8x := hid (set6 N8.out (.int .i64 p.lsn) (.int .i64 p.kind) (.int .i64 p.level) (.int .i64 p.right) (.string (M.bs p.high)) (.slice a1 n1 c1))
              have N9x := hid (other6 N9.out (show g9 ≠ g8 by omega) (.int .i64 p.lsn) (.int .i64 p.kind) (.int .i64 p.level) (.int .i64 p.right) (.string (M.bs p.high)) (.slice a1 n1 c1))
              have Ix := hid (SC.mk (other6 I.out.b0 (show w.heap.size ≠ g8 by omega) (.int .i64 p.lsn) (.int .i64 p.kind) (.int .i64 p.level) (.int .i64 p.right) (.string (M.bs p.high)) (.slice a1 n1 c1)) (other6 I.out.b1 (show w.heap.size + 1 ≠ g8 by omega) (.int .i64 p.lsn) (.int .i64 p.kind) (.int .i64 p.level) (.int .i64 p.right) (.string (M.bs p.high)) (.slice a1 n1 c1)) (other6 I.out.b2 (show w.heap.size + 1 + 1 ≠ g8 by omega) (.int .i64 p.lsn) (.int .i64 p.kind) (.int .i64 p.level) (.int .i64 p.right) (.string (M.bs p.high)) (.slice a1 n1 c1)) (bel6 I.out.below (show w.heap.size ≤ g8 by omega) (.int .i64 p.lsn) (.int .i64 p.kind) (.int .i64 p.level) (.int .i64 p.right) (.string (M.bs p.high)) (.slice a1 n1 c1)))
              refine HX.out _ _ ⟨(fun h => by cases (Eq.trans (Eq.symm (show _ = true by kernel_rfl)) h)), ?_⟩
              clear HX d0 d1 d2 d3 d4 d5 f0 f1 f2 f3 f4 f5 I N8 N9
              generalize ((((((w24.setCell ⟨g8, 0, none⟩ (.int .i64 p.lsn)).setCell ⟨g8, 1, none⟩ (.int .i64 p.kind)).setCell ⟨g8, 2, none⟩ (.int .i64 p.level)).setCell ⟨g8, 3, none⟩ (.int .i64 p.right)).setCell ⟨g8, 4, none⟩ (.string (M.bs p.high))).setCell ⟨g8, 5, none⟩ (.slice a1 n1 c1)) = w25 at *
              have I := Ix
              have N8 := N8x
              have N9 := N9x
              clear Ix N8x N9x
              try simp only [Act.put]
              obtain ⟨d0, d1, d2, d3, d4, d5⟩ := blk_cells N9.out
              have f0 := N9.out.frozen 0
              have f1 := N9.out.frozen 1
              have f2 := N9.out.frozen 2
              have f3 := N9.out.frozen 3
              have f4 := N9.out.frozen 4
              have f5 := N9.out.frozen 5
              refine until_step (j := 15) (by kernel_rfl) rfl (by kernel_rfl) (fun KX hKX => ?_)
              have HX := hid hKX
              clear hKX
              go_simp
              have N9x := hid (set6 N9.out (.int .i64 p.lsn) (.int .i64 p.kind) (.int .i64 p.level) (.int .i64 p.right) (.string (M.bs p.high)) (.slice a2 n2 c2))
              have N8x := hid (other6 N8.out (show g8 ≠ g9 by omega) (.int .i64 p.lsn) (.int .i64 p.kind) (.int .i64 p.level) (.int .i64 p.right) (.string (M.bs p.high)) (.slice a2 n2 c2))
              have Ix := hid (SC.mk (other6 I.out.b0 (show w.heap.size ≠ g9 by omega) (.int .i64 p.lsn) (.int .i64 p.kind) (.int .i64 p.level) (.int .i64 p.right) (.string (M.bs p.high)) (.slice a2 n2 c2)) (other6 I.out.b1 (show w.heap.size + 1 ≠ g9 by omega) (.int .i64 p.lsn) (.int .i64 p.kind) (.int .i64 p.level) (.int .i64 p.right) (.string (M.bs p.high)) (.slice a2 n2 c2)) (other6 I.out.b2 (show w.heap.size + 1 + 1 ≠ g9 by omega) (.int .i64 p.lsn) (.int .i64 p.kind) (.int .i64 p.level) (.int .i64 p.right) (.string (M.bs p.high)) (.slice a2 n2 c2)) (bel6 I.out.below (show w.heap.size ≤ g9 by omega) (.int .i64 p.lsn) (.int .i64 p.kind) (.int .i64 p.level) (.int .i64 p.right) (.string (M.bs p.high)) (.slice a2 n2 c2)))
              refine HX.out _ _ ⟨(fun h => by cases (Eq.trans (Eq.symm (show _ = true by kernel_rfl)) h)), ?_⟩
              clear HX d0 d1 d2 d3 d4 d5 f0 f1 f2 f3 f4 f5 I N9 N8
              generalize ((((((w25.setCell ⟨g9, 0, none⟩ (.int .i64 p.lsn)).setCell ⟨g9, 1, none⟩ (.int .i64 p.kind)).setCell ⟨g9, 2, none⟩ (.int .i64 p.level)).setCell ⟨g9, 3, none⟩ (.int .i64 p.right)).setCell ⟨g9, 4, none⟩ (.string (M.bs p.high))).setCell ⟨g9, 5, none⟩ (.slice a2 n2 c2)) = w26 at *
              have I := Ix
              have N9 := N9x
              have N8 := N8x
              clear Ix N9x N8x
              refine until_done (by kernel_rfl) ⟨rfl, g8, g9, ?_, by omega, by omega, by omega, N8.out, N9.out, I.out⟩ _
              kernel_rfl
          · skip
            refine wpOp_step rfl (fun KX hKX => ?_)
            have HX := hid hKX
            clear hKX
            go_simp
            have kk : Bel w21 (w21.alloc (.cells #[.int .i64 0, .int .i64 0, .int .i64 0, .int .i64 0, .string ⟨#[]⟩, .slice none 0 0] 33)) := Bel.al (Below.refl _ _) _
            obtain ⟨g8, hg8⟩ : ∃ g, g = w21.heap.size := ⟨_, rfl⟩
            have Zg8 := I.out.b2.lt
            rw [← hg8] at Zg8
            have N8 : Hid (Blk (w21.alloc (.cells #[.int .i64 0, .int .i64 0, .int .i64 0, .int .i64 0, .string ⟨#[]⟩, .slice none 0 0] 33)) g8 #[.int .i64 0, .int .i64 0, .int .i64 0, .int .i64 0, .string ⟨#[]⟩, .slice none 0 0] 33) := by rw [hg8]; exact Blk.new _ _ _
            have Ix := hid (I.out.bel kk)
            refine HX.out _ _ ⟨fun _ => Ix.out.b0, ?_⟩
            rw [← hg8]
            clear HX kk I hg8 
            have I := Ix
            clear Ix
            generalize w21.alloc (.cells #[.int .i64 0, .int .i64 0, .int .i64 0, .int .i64 0, .string ⟨#[]⟩, .slice none 0 0] 33) = w22 at *
            try simp only [Act.put]
            refine until_ready (rs := [11, 13]) (by kernel_rfl) (by simp) ?_
            intro jj hjj
            simp only [List.mem_cons, List.not_mem_nil, or_false] at hjj
            rcases hjj with rfl | rfl
            · skip
              refine wpOp_step rfl (fun KX hKX => ?_)
              have HX := hid hKX
              clear hKX
              go_simp
              refine (with_any p (some ⟨b, off, none⟩) p.es.length cap a2 n2 c2 w22).mono ?_
              rintro e w23 ⟨rfl, kk⟩
              have Ix := hid (I.out.bel kk)
              have N8x := hid (N8.out.below kk N8.out.lt)
              refine HX.out _ _ ⟨fun _ => Ix.out.b0, ?_⟩
              clear HX kk I N8
              have I := Ix
              clear Ix
              have N8 := N8x
              clear N8x
              try simp only [Act.put]
              refine until_step (j := 13) (by kernel_rfl) rfl (by kernel_rfl) (fun KX hKX => ?_)
              have HX := hid hKX
              clear hKX
              go_simp
              have kk : Bel w23 (w23.alloc (.cells #[.int .i64 0, .int .i64 0, .int .i64 0, .int .i64 0, .string ⟨#[]⟩, .slice none 0 0] 33)) := Bel.al (Below.refl _ _) _
              obtain ⟨g9, hg9⟩ : ∃ g, g = w23.heap.size := ⟨_, rfl⟩
              have Zg9 := I.out.b2.lt
              rw [← hg9] at Zg9
              have N9 : Hid (Blk (w23.alloc (.cells #[.int .i64 0, .int .i64 0, .int .i64 0, .int .i64 0, .string ⟨#[]⟩, .slice none 0 0] 33)) g9 #[.int .i64 0, .int .i64 0, .int .i64 0, .int .i64 0, .string ⟨#[]⟩, .slice none 0 0] 33) := by rw [hg9]; exact Blk.new _ _ _
              have Ix := hid (I.out.bel kk)
              have N8x := hid (N8.out.below kk N8.out.lt)
              have hneN8 := N8.out.lt
              rw [← hg9] at hneN8
              refine HX.out _ _ ⟨fun _ => Ix.out.b0, ?_⟩
              rw [← hg9]
              clear HX kk I hg9 N8
              have I := Ix
              clear Ix
              have N8 := N8x
              clear N8x
              generalize w23.alloc (.cells #[.int .i64 0, .int .i64 0, .int .i64 0, .int .i64 0, .string ⟨#[]⟩, .slice none 0 0] 33) = w24 at *
              try simp only [Act.put]
              obtain ⟨d0, d1, d2, d3, d4, d5⟩ := blk_cells N8.out
              have f0 := N8.out.frozen 0
              have f1 := N8.out.frozen 1
              have f2 := N8.out.frozen 2
              have f3 := N8.out.frozen 3
              have f4 := N8.out.frozen 4
              have f5 := N8.out.frozen 5
              refine until_step (j := 14) (by kernel_rfl) rfl (by kernel_rfl) (fun KX hKX => ?_)
              have HX := hid hKX
              clear hKX
              go_simp
              have N8x := hid (set6 N8.out (.int .i64 p.lsn) (.int .i64 p.kind) (.int .i64 p.level) (.int .i64 p.right) (.string (M.bs p.high)) (.slice a1 n1 c1))
              have N9x := hid (other6 N9.out (show g9 ≠ g8 by omega) (.int .i64 p.lsn) (.int .i64 p.kind) (.int .i64 p.level) (.int .i64 p.right) (.string (M.bs p.high)) (.slice a1 n1 c1))
              have Ix := hid (SC.mk (other6 I.out.b0 (show w.heap.size ≠ g8 by omega) (.int .i64 p.lsn) (.int .i64 p.kind) (.int .i64 p.level) (.int .i64 p.right) (.string (M.bs p.high)) (.slice a1 n1 c1)) (other6 I.out.b1 (show w.heap.size + 1 ≠ g8 by omega) (.int .i64 p.lsn) (.int .i64 p.kind) (.int .i64 p.level) (.int .i64 p.right) (.string (M.bs p.high)) (.slice a1 n1 c1)) (other6 I.out.b2 (show w.heap.size + 1 + 1 ≠ g8 by omega) (.int .i64 p.lsn) (.int .i64 p.kind) (.int .i64 p.level) (.int .i64 p.right) (.string (M.bs p.high)) (.slice a1 n1 c1)) (bel6 I.out.below (show w.heap.size ≤ g8 by omega) (.int .i64 p.lsn) (.int .i64 p.kind) (.int .i64 p.level) (.int .i64 p.right) (.string (M.bs p.high)) (.slice a1 n1 c1)))
              refine HX.out _ _ ⟨(fun h => by cases (Eq.trans (Eq.symm (show _ = true by kernel_rfl)) h)), ?_⟩
              clear HX d0 d1 d2 d3 d4 d5 f0 f1 f2 f3 f4 f5 I N8 N9
              generalize ((((((w24.setCell ⟨g8, 0, none⟩ (.int .i64 p.lsn)).setCell ⟨g8, 1, none⟩ (.int .i64 p.kind)).setCell ⟨g8, 2, none⟩ (.int .i64 p.level)).setCell ⟨g8, 3, none⟩ (.int .i64 p.right)).setCell ⟨g8, 4, none⟩ (.string (M.bs p.high))).setCell ⟨g8, 5, none⟩ (.slice a1 n1 c1)) = w25 at *
              have I := Ix
              have N8 := N8x
              have N9 := N9x
              clear Ix N8x N9x
              try simp only [Act.put]
              obtain ⟨d0, d1, d2, d3, d4, d5⟩ := blk_cells N9.out
              have f0 := N9.out.frozen 0
              have f1 := N9.out.frozen 1
              have f2 := N9.out.frozen 2
              have f3 := N9.out.frozen 3
              have f4 := N9.out.frozen 4
              have f5 := N9.out.frozen 5
              refine until_step (j := 15) (by kernel_rfl) rfl (by kernel_rfl) (fun KX hKX => ?_)
              have HX := hid hKX
              clear hKX
              go_simp
              have N9x := hid (set6 N9.out (.int .i64 p.lsn) (.int .i64 p.kind) (.int .i64 p.level) (.int .i64 p.right) (.string (M.bs p.high)) (.slice a2 n2 c2))
              have N8x := hid (other6 N8.out (show g8 ≠ g9 by omega) (.int .i64 p.lsn) (.int .i64 p.kind) (.int .i64 p.level) (.int .i64 p.right) (.string (M.bs p.high)) (.slice a2 n2 c2))
              have Ix := hid (SC.mk (other6 I.out.b0 (show w.heap.size ≠ g9 by omega) (.int .i64 p.lsn) (.int .i64 p.kind) (.int .i64 p.level) (.int .i64 p.right) (.string (M.bs p.high)) (.slice a2 n2 c2)) (other6 I.out.b1 (show w.heap.size + 1 ≠ g9 by omega) (.int .i64 p.lsn) (.int .i64 p.kind) (.int .i64 p.level) (.int .i64 p.right) (.string (M.bs p.high)) (.slice a2 n2 c2)) (other6 I.out.b2 (show w.heap.size + 1 + 1 ≠ g9 by omega) (.int .i64 p.lsn) (.int .i64 p.kind) (.int .i64 p.level) (.int .i64 p.right) (.string (M.bs p.high)) (.slice a2 n2 c2)) (bel6 I.out.below (show w.heap.size ≤ g9 by omega) (.int .i64 p.lsn) (.int .i64 p.kind) (.int .i64 p.level) (.int .i64 p.right) (.string (M.bs p.high)) (.slice a2 n2 c2)))
              refine HX.out _ _ ⟨(fun h => by cases (Eq.trans (Eq.symm (show _ = true by kernel_rfl)) h)), ?_⟩
              clear HX d0 d1 d2 d3 d4 d5 f0 f1 f2 f3 f4 f5 I N9 N8
              generalize ((((((w25.setCell ⟨g9, 0, none⟩ (.int .i64 p.lsn)).setCell ⟨g9, 1, none⟩ (.int .i64 p.kind)).setCell ⟨g9, 2, none⟩ (.int .i64 p.level)).setCell ⟨g9, 3, none⟩ (.int .i64 p.right)).setCell ⟨g9, 4, none⟩ (.string (M.bs p.high))).setCell ⟨g9, 5, none⟩ (.slice a2 n2 c2)) = w26 at *
              have I := Ix
              have N9 := N9x
              have N8 := N8x
              clear Ix N9x N8x
              refine until_done (by kernel_rfl) ⟨rfl, g8, g9, ?_, by omega, by omega, by omega, N8.out, N9.out, I.out⟩ _
              kernel_rfl
            · skip
              refine wpOp_step rfl (fun KX hKX => ?_)
              have HX := hid hKX
              clear hKX
              go_simp
              have kk : Bel w22 (w22.alloc (.cells #[.int .i64 0, .int .i64 0, .int .i64 0, .int .i64 0, .string ⟨#[]⟩, .slice none 0 0] 33)) := Bel.al (Below.refl _ _) _
              obtain ⟨g9, hg9⟩ : ∃ g, g = w22.heap.size := ⟨_, rfl⟩
              have Zg9 := I.out.b2.lt
              rw [← hg9] at Zg9
              have N9 : Hid (Blk (w22.alloc (.cells #[.int .i64 0, .int .i64 0, .int .i64 0, .int .i64 0, .string ⟨#[]⟩, .slice none 0 0] 33)) g9 #[.int .i64 0, .int .i64 0, .int .i64 0, .int .i64 0, .string ⟨#[]⟩, .slice none 0 0] 33) := by rw [hg9]; exact Blk.new _ _ _
              have Ix := hid (I.out.bel kk)
              have N8x := hid (N8.out.below kk N8.out.lt)
              have hneN8 := N8.out.lt
              rw [← hg9] at hneN8
              refine HX.out _ _ ⟨fun _ => Ix.out.b0, ?_⟩
              rw [← hg9]
              clear HX kk I hg9 N8
              have I := Ix
              clear Ix
              have N8 := N8x
              clear N8x
              generalize w22.alloc (.cells #[.int .i64 0, .int .i64 0, .int .i64 0, .int .i64 0, .string ⟨#[]⟩, .slice none 0 0] 33) = w23 at *
              try simp only [Act.put]
              refine until_step (j := 11) (by kernel_rfl) rfl (by kernel_rfl) (fun KX hKX => ?_)
              have HX := hid hKX
              clear hKX
              go_simp
              refine (with_any p (some ⟨b, off, none⟩) p.es.length cap a2 n2 c2 w23).mono ?_
              rintro e w24 ⟨rfl, kk⟩
              have Ix := hid (I.out.bel kk)
              have N8x := hid (N8.out.below kk N8.out.lt)
              have N9x := hid (N9.out.below kk N9.out.lt)
              refine HX.out _ _ ⟨fun _ => Ix.out.b0, ?_⟩
              clear HX kk I N8 N9
              have I := Ix
              clear Ix
              have N8 := N8x
              clear N8x
              have N9 := N9x
              clear N9x
              try simp only [Act.put]
              obtain ⟨d0, d1, d2, d3, d4, d5⟩ := blk_cells N8.out
              have f0 := N8.out.frozen 0
              have f1 := N8.out.frozen 1
              have f2 := N8.out.frozen 2
              have f3 := N8.out.frozen 3
              have f4 := N8.out.frozen 4
              have f5 := N8.out.frozen 5
              refine until_step (j := 14) (by kernel_rfl) rfl (by kernel_rfl) (fun KX hKX => ?_)
              have HX := hid hKX
              clear hKX
              go_simp
              have N8x := hid (set6 N8.out (.int .i64 p.lsn) (.int .i64 p.kind) (.int .i64 p.level) (.int .i64 p.right) (.string (M.bs p.high)) (.slice a1 n1 c1))
              have N9x := hid (other6 N9.out (show g9 ≠ g8 by omega) (.int .i64 p.lsn) (.int .i64 p.kind) (.int .i64 p.level) (.int .i64 p.right) (.string (M.bs p.high)) (.slice a1 n1 c1))
              have Ix := hid (SC.mk (other6 I.out.b0 (show w.heap.size ≠ g8 by omega) (.int .i64 p.lsn) (.int .i64 p.kind) (.int .i64 p.level) (.int .i64 p.right) (.string (M.bs p.high)) (.slice a1 n1 c1)) (other6 I.out.b1 (show w.heap.size + 1 ≠ g8 by omega) (.int .i64 p.lsn) (.int .i64 p.kind) (.int .i64 p.level) (.int .i64 p.right) (.string (M.bs p.high)) (.slice a1 n1 c1)) (other6 I.out.b2 (show w.heap.size + 1 + 1 ≠ g8 by omega) (.int .i64 p.lsn) (.int .i64 p.kind) (.int .i64 p.level) (.int .i64 p.right) (.string (M.bs p.high)) (.slice a1 n1 c1)) (bel6 I.out.below (show w.heap.size ≤ g8 by omega) (.int .i64 p.lsn) (.int .i64 p.kind) (.int .i64 p.level) (.int .i64 p.right) (.string (M.bs p.high)) (.slice a1 n1 c1)))
              refine HX.out _ _ ⟨(fun h => by cases (Eq.trans (Eq.symm (show _ = true by kernel_rfl)) h)), ?_⟩
              clear HX d0 d1 d2 d3 d4 d5 f0 f1 f2 f3 f4 f5 I N8 N9
              generalize ((((((w24.setCell ⟨g8, 0, none⟩ (.int .i64 p.lsn)).setCell ⟨g8, 1, none⟩ (.int .i64 p.kind)).setCell ⟨g8, 2, none⟩ (.int .i64 p.level)).setCell ⟨g8, 3, none⟩ (.int .i64 p.right)).setCell ⟨g8, 4, none⟩ (.string (M.bs p.high))).setCell ⟨g8, 5, none⟩ (.slice a1 n1 c1)) = w25 at *
              have I := Ix
              have N8 := N8x
              have N9 := N9x
              clear Ix N8x N9x
              try simp only [Act.put]
              obtain ⟨d0, d1, d2, d3, d4, d5⟩ := blk_cells N9.out
              have f0 := N9.out.frozen 0
              have f1 := N9.out.frozen 1
              have f2 := N9.out.frozen 2
              have f3 := N9.out.frozen 3
              have f4 := N9.out.frozen 4
              have f5 := N9.out.frozen 5
              refine until_step (j := 15) (by kernel_rfl) rfl (by kernel_rfl) (fun KX hKX => ?_)
              have HX := hid hKX
              clear hKX
              go_simp
              have N9x := hid (set6 N9.out (.int .i64 p.lsn) (.int .i64 p.kind) (.int .i64 p.level) (.int .i64 p.right) (.string (M.bs p.high)) (.slice a2 n2 c2))
              have N8x := hid (other6 N8.out (show g8 ≠ g9 by omega) (.int .i64 p.lsn) (.int .i64 p.kind) (.int .i64 p.level) (.int .i64 p.right) (.string (M.bs p.high)) (.slice a2 n2 c2))
              have Ix := hid (SC.mk (other6 I.out.b0 (show w.heap.size ≠ g9 by omega) (.int .i64 p.lsn) (.int .i64 p.kind) (.int .i64 p.level) (.int .i64 p.right) (.string (M.bs p.high)) (.slice a2 n2 c2)) (other6 I.out.b1 (show w.heap.size + 1 ≠ g9 by omega) (.int .i64 p.lsn) (.int .i64 p.kind) (.int .i64 p.level) (.int .i64 p.right) (.string (M.bs p.high)) (.slice a2 n2 c2)) (other6 I.out.b2 (show w.heap.size + 1 + 1 ≠ g9 by omega) (.int .i64 p.lsn) (.int .i64 p.kind) (.int .i64 p.level) (.int .i64 p.right) (.string (M.bs p.high)) (.slice a2 n2 c2)) (bel6 I.out.below (show w.heap.size ≤ g9 by omega) (.int .i64 p.lsn) (.int .i64 p.kind) (.int .i64 p.level) (.int .i64 p.right) (.string (M.bs p.high)) (.slice a2 n2 c2)))
              refine HX.out _ _ ⟨(fun h => by cases (Eq.trans (Eq.symm (show _ = true by kernel_rfl)) h)), ?_⟩
              clear HX d0 d1 d2 d3 d4 d5 f0 f1 f2 f3 f4 f5 I N9 N8
              generalize ((((((w25.setCell ⟨g9, 0, none⟩ (.int .i64 p.lsn)).setCell ⟨g9, 1, none⟩ (.int .i64 p.kind)).setCell ⟨g9, 2, none⟩ (.int .i64 p.level)).setCell ⟨g9, 3, none⟩ (.int .i64 p.right)).setCell ⟨g9, 4, none⟩ (.string (M.bs p.high))).setCell ⟨g9, 5, none⟩ (.slice a2 n2 c2)) = w26 at *
              have I := Ix
              have N9 := N9x
              have N8 := N8x
              clear Ix N9x N8x
              refine until_done (by kernel_rfl) ⟨rfl, g8, g9, ?_, by omega, by omega, by omega, N8.out, N9.out, I.out⟩ _
              kernel_rfl
          · skip
            refine wpOp_step rfl (fun KX hKX => ?_)
            have HX := hid hKX
            clear hKX
            go_simp
            have kk : Bel w21 (w21.alloc (.cells #[.int .i64 0, .int .i64 0, .int .i64 0, .int .i64 0, .string ⟨#[]⟩, .slice none 0 0] 33)) := Bel.al (Below.refl _ _) _
            obtain ⟨g9, hg9⟩ : ∃ g, g = w21.heap.size := ⟨_, rfl⟩
            have Zg9 := I.out.b2.lt
            rw [← hg9] at Zg9
            have N9 : Hid (Blk (w21.alloc (.cells #[.int .i64 0, .int .i64 0, .int .i64 0, .int .i64 0, .string ⟨#[]⟩, .slice none 0 0] 33)) g9 #[.int .i64 0, .int .i64 0, .int .i64 0, .int .i64 0, .string ⟨#[]⟩, .slice none 0 0] 33) := by rw [hg9]; exact Blk.new _ _ _
            have Ix := hid (I.out.bel kk)
            refine HX.out _ _ ⟨fun _ => Ix.out.b0, ?_⟩
            rw [← hg9]
            clear HX kk I hg9 
            have I := Ix
            clear Ix
            generalize w21.alloc (.cells #[.int .i64 0, .int .i64 0, .int .i64 0, .int .i64 0, .string ⟨#[]⟩, .slice none 0 0] 33) = w22 at *
            try simp only [Act.put]
            refine until_ready (rs := [11, 12]) (by kernel_rfl) (by simp) ?_
            intro jj hjj
            simp only [List.mem_cons, List.not_mem_nil, or_false] at hjj
            rcases hjj with rfl | rfl
            · skip
              refine wpOp_step rfl (fun KX hKX => ?_)
              have HX := hid hKX
              clear hKX
              go_simp
              refine (with_any p (some ⟨b, off, none⟩) p.es.length cap a2 n2 c2 w22).mono ?_
              rintro e w23 ⟨rfl, kk⟩
              have Ix := hid (I.out.bel kk)
              have N9x := hid (N9.out.below kk N9.out.lt)
              refine HX.out _ _ ⟨fun _ => Ix.out.b0, ?_⟩
              clear HX kk I N9
              have I := Ix
              clear Ix
              have N9 := N9x
              clear N9x
              try simp only [Act.put]
              refine until_step (j := 12) (by kernel_rfl) rfl (by kernel_rfl) (fun KX hKX => ?_)
              have HX := hid hKX
              clear hKX
              go_simp
              have kk : Bel w23 (w23.alloc (.cells #[.int .i64 0, .int .i64 0, .int .i64 0, .int .i64 0, .string ⟨#[]⟩, .slice none 0 0] 33)) := Bel.al (Below.refl _ _) _
              obtain ⟨g8, hg8⟩ : ∃ g, g = w23.heap.size := ⟨_, rfl⟩
              have Zg8 := I.out.b2.lt
              rw [← hg8] at Zg8
              have N8 : Hid (Blk (w23.alloc (.cells #[.int .i64 0, .int .i64 0, .int .i64 0, .int .i64 0, .string ⟨#[]⟩, .slice none 0 0] 33)) g8 #[.int .i64 0, .int .i64 0, .int .i64 0, .int .i64 0, .string ⟨#[]⟩, .slice none 0 0] 33) := by rw [hg8]; exact Blk.new _ _ _
              have Ix := hid (I.out.bel kk)
              have N9x := hid (N9.out.below kk N9.out.lt)
              have hneN9 := N9.out.lt
              rw [← hg8] at hneN9
              refine HX.out _ _ ⟨fun _ => Ix.out.b0, ?_⟩
              rw [← hg8]
              clear HX kk I hg8 N9
              have I := Ix
              clear Ix
              have N9 := N9x
              clear N9x
              generalize w23.alloc (.cells #[.int .i64 0, .int .i64 0, .int .i64 0, .int .i64 0, .string ⟨#[]⟩, .slice none 0 0] 33) = w24 at *
              try simp only [Act.put]
              obtain ⟨d0, d1, d2, d3, d4, d5⟩ := blk_cells N8.out
              have f0 := N8.out.frozen 0
              have f1 := N8.out.frozen 1
              have f2 := N8.out.frozen 2
              have f3 := N8.out.frozen 3
              have f4 := N8.out.frozen 4
              have f5 := N8.out.frozen 5
              refine until_step (j := 14) (by kernel_rfl) rfl (by kernel_rfl) (fun KX hKX => ?_)
              have HX := hid hKX
              clear hKX
              go_simp
              have N8x := hid (set6 N8.out (.int .i64 p.lsn) (.int .i64 p.kind) (.int .i64 p.level) (.int .i64 p.right) (.string (M.bs p.high)) (.slice a1 n1 c1))
              have N9x := hid (other6 N9.out (show g9 ≠ g8 by omega) (.int .i64 p.lsn) (.int .i64 p.kind) (.int .i64 p.level) (.int .i64 p.right) (.string (M.bs p.high)) (.slice a1 n1 c1))
              have Ix := hid (SC.mk (other6 I.out.b0 (show w.heap.size ≠ g8 by omega) (.int .i64 p.lsn) (.int .i64 p.kind) (.int .i64 p.level) (.int .i64 p.right) (.string (M.bs p.high)) (.slice a1 n1 c1)) (other6 I.out.b1 (show w.heap.size + 1 ≠ g8 by omega) (.int .i64 p.lsn) (.int .i64 p.kind) (.int .i64 p.level) (.int .i64 p.right) (.string (M.bs p.high)) (.slice a1 n1 c1)) (other6 I.out.b2 (show w.heap.size + 1 + 1 ≠ g8 by omega) (.int .i64 p.lsn) (.int .i64 p.kind) (.int .i64 p.level) (.int .i64 p.right) (.string (M.bs p.high)) (.slice a1 n1 c1)) (bel6 I.out.below (show w.heap.size ≤ g8 by omega) (.int .i64 p.lsn) (.int .i64 p.kind) (.int .i64 p.level) (.int .i64 p.right) (.string (M.bs p.high)) (.slice a1 n1 c1)))
              refine HX.out _ _ ⟨(fun h => by cases (Eq.trans (Eq.symm (show _ = true by kernel_rfl)) h)), ?_⟩
              clear HX d0 d1 d2 d3 d4 d5 f0 f1 f2 f3 f4 f5 I N8 N9
              generalize ((((((w24.setCell ⟨g8, 0, none⟩ (.int .i64 p.lsn)).setCell ⟨g8, 1, none⟩ (.int .i64 p.kind)).setCell ⟨g8, 2, none⟩ (.int .i64 p.level)).setCell ⟨g8, 3, none⟩ (.int .i64 p.right)).setCell ⟨g8, 4, none⟩ (.string (M.bs p.high))).setCell ⟨g8, 5, none⟩ (.slice a1 n1 c1)) = w25 at *
              have I := Ix
              have N8 := N8x
              have N9 := N9x
              clear Ix N8x N9x
              try simp only [Act.put]
              obtain ⟨d0, d1, d2, d3, d4, d5⟩ := blk_cells N9.out
              have f0 := N9.out.frozen 0
              have f1 := N9.out.frozen 1
              have f2 := N9.out.frozen 2
              have f3 := N9.out.frozen 3
              have f4 := N9.out.frozen 4
              have f5 := N9.out.frozen 5
              refine until_step (j := 15) (by kernel_rfl) rfl (by kernel_rfl) (fun KX hKX => ?_)
              have HX := hid hKX
              clear hKX
              go_simp
              have N9x := hid (set6 N9.out (.int .i64 p.lsn) (.int .i64 p.kind) (.int .i64 p.level) (.int .i64 p.right) (.string (M.bs p.high)) (.slice a2 n2 c2))
              have N8x := hid (other6 N8.out (show g8 ≠ g9 by omega) (.int .i64 p.lsn) (.int .i64 p.kind) (.int .i64 p.level) (.int .i64 p.right) (.string (M.bs p.high)) (.slice a2 n2 c2))
              have Ix := hid (SC.mk (other6 I.out.b0 (show w.heap.size ≠ g9 by omega) (.int .i64 p.lsn) (.int .i64 p.kind) (.int .i64 p.level) (.int .i64 p.right) (.string (M.bs p.high)) (.slice a2 n2 c2)) (other6 I.out.b1 (show w.heap.size + 1 ≠ g9 by omega) (.int .i64 p.lsn) (.int .i64 p.kind) (.int .i64 p.level) (.int .i64 p.right) (.string (M.bs p.high)) (.slice a2 n2 c2)) (other6 I.out.b2 (show w.heap.size + 1 + 1 ≠ g9 by omega) (.int .i64 p.lsn) (.int .i64 p.kind) (.int .i64 p.level) (.int .i64 p.right) (.string (M.bs p.high)) (.slice a2 n2 c2)) (bel6 I.out.below (show w.heap.size ≤ g9 by omega) (.int .i64 p.lsn) (.int .i64 p.kind) (.int .i64 p.level) (.int .i64 p.right) (.string (M.bs p.high)) (.slice a2 n2 c2)))
              refine HX.out _ _ ⟨(fun h => by cases (Eq.trans (Eq.symm (show _ = true by kernel_rfl)) h)), ?_⟩
              clear HX d0 d1 d2 d3 d4 d5 f0 f1 f2 f3 f4 f5 I N9 N8
              generalize ((((((w25.setCell ⟨g9, 0, none⟩ (.int .i64 p.lsn)).setCell ⟨g9, 1, none⟩ (.int .i64 p.kind)).setCell ⟨g9, 2, none⟩ (.int .i64 p.level)).setCell ⟨g9, 3, none⟩ (.int .i64 p.right)).setCell ⟨g9, 4, none⟩ (.string (M.bs p.high))).setCell ⟨g9, 5, none⟩ (.slice a2 n2 c2)) = w26 at *
              have I := Ix
              have N9 := N9x
              have N8 := N8x
              clear Ix N9x N8x
              refine until_done (by kernel_rfl) ⟨rfl, g8, g9, ?_, by omega, by omega, by omega, N8.out, N9.out, I.out⟩ _
              kernel_rfl
            · skip
              refine wpOp_step rfl (fun KX hKX => ?_)
              have HX := hid hKX
              clear hKX
              go_simp
              have kk : Bel w22 (w22.alloc (.cells #[.int .i64 0, .int .i64 0, .int .i64 0, .int .i64 0, .string ⟨#[]⟩, .slice none 0 0] 33)) := Bel.al (Below.refl _ _) _
              obtain ⟨g8, hg8⟩ : ∃ g, g = w22.heap.size := ⟨_, rfl⟩
              have Zg8 := I.out.b2.lt
              rw [← hg8] at Zg8
              have N8 : Hid (Blk (w22.alloc (.cells #[.int .i64 0, .int .i64 0, .int .i64 0, .int .i64 0, .string ⟨#[]⟩, .slice none 0 0] 33)) g8 #[.int .i64 0, .int .i64 0, .int .i64 0, .int .i64 0, .string ⟨#[]⟩, .slice none 0 0] 33) := by rw [hg8]; exact Blk.new _ _ _
              have Ix := hid (I.out.bel kk)
              have N9x := hid (N9.out.below kk N9.out.lt)
              have hneN9 := N9.out.lt
              rw [← hg8] at hneN9
              refine HX.out _ _ ⟨fun _ => Ix.out.b0, ?_⟩
              rw [← hg8]
              clear HX kk I hg8 N9
              have I := Ix
              clear Ix
              have N9 := N9x
              clear N9x
              generalize w22.alloc (.cells #[.int .i64 0, .int .i64 0, .int .i64 0, .int .i64 0, .string ⟨#[]⟩, .slice none 0 0] 33) = w23 at *
              try simp only [Act.put]
              refine until_step (j := 11) (by kernel_rfl) rfl (by kernel_rfl) (fun KX hKX => ?_)
              have HX := hid hKX
              clear hKX
              go_simp
              refine (with_any p (some ⟨b, off, none⟩) p.es.length cap a2 n2 c2 w23).mono ?_
              rintro e w24 ⟨rfl, kk⟩
              have Ix := hid (I.out.bel kk)
              have N8x := hid (N8.out.below kk N8.out.lt)
              have N9x := hid (N9.out.below kk N9.out.lt)
              refine HX.out _ _ ⟨fun _ => Ix.out.b0, ?_⟩
              clear HX kk I N8 N9
              have I := Ix
              clear Ix
              have N8 := N8x
              clear N8x
              have N9 := N9x
              clear N9x
              try simp only [Act.put]
              obtain ⟨d0, d1, d2, d3, d4, d5⟩ := blk_cells N8.out
              have f0 := N8.out.frozen 0
              have f1 := N8.out.frozen 1
              have f2 := N8.out.frozen 2
              have f3 := N8.out.frozen 3
              have f4 := N8.out.frozen 4
              have f5 := N8.out.frozen 5
              refine until_step (j := 14) (by kernel_rfl) rfl (by kernel_rfl) (fun KX hKX => ?_)
              have HX := hid hKX
              clear hKX
              go_simp
              have N8x := hid (set6 N8.out (.int .i64 p.lsn) (.int .i64 p.kind) (.int .i64 p.level) (.int .i64 p.right) (.string (M.bs p.high)) (.slice a1 n1 c1))
              have N9x := hid (other6 N9.out (show g9 ≠ g8 by omega) (.int .i64 p.lsn) (.int .i64 p.kind) (.int .i64 p.level) (.int .i64 p.right) (.string (M.bs p.high)) (.slice a1 n1 c1))
              have Ix := hid (SC.mk (other6 I.out.b0 (show w.heap.size ≠ g8 by omega) (.int .i64 p.lsn) (.int .i64 p.kind) (.int .i64 p.level) (.int .i64 p.right) (.string (M.bs p.high)) (.slice a1 n1 c1)) (other6 I.out.b1 (show w.heap.size + 1 ≠ g8 by omega) (.int .i64 p.lsn) (.int .i64 p.kind) (.int .i64 p.level) (.int .i64 p.right) (.string (M.bs p.high)) (.slice a1 n1 c1)) (other6 I.out.b2 (show w.heap.size + 1 + 1 ≠ g8 by omega) (.int .i64 p.lsn) (.int .i64 p.kind) (.int .i64 p.level) (.int .i64 p.right) (.string (M.bs p.high)) (.slice a1 n1 c1)) (bel6 I.out.below (show w.heap.size ≤ g8 by omega) (.int .i64 p.lsn) (.int .i64 p.kind) (.int .i64 p.level) (.int .i64 p.right) (.string (M.bs p.high)) (.slice a1 n1 c1)))
              refine HX.out _ _ ⟨(fun h => by cases (Eq.trans (Eq.symm (show _ = true by kernel_rfl)) h)), ?_⟩
              clear HX d0 d1 d2 d3 d4 d5 f0 f1 f2 f3 f4 f5 I N8 N9
              generalize ((((((w24.setCell ⟨g8, 0, none⟩ (.int .i64 p.lsn)).setCell ⟨g8, 1, none⟩ (.int .i64 p.kind)).setCell ⟨g8, 2, none⟩ (.int .i64 p.level)).setCell ⟨g8, 3, none⟩ (.int .i64 p.right)).setCell ⟨g8, 4, none⟩ (.string (M.bs p.high))).setCell ⟨g8, 5, none⟩ (.slice a1 n1 c1)) = w25 at *
              have I := Ix
              have N8 := N8x
              have N9 := N9x
              clear Ix N8x N9x
              try simp only [Act.put]
              obtain ⟨d0, d1, d2, d3, d4, d5⟩ := blk_cells N9.out
              have f0 := N9.out.frozen 0
              have f1 := N9.out.frozen 1
              have f2 := N9.out.frozen 2
              have f3 := N9.out.frozen 3
              have f4 := N9.out.frozen 4
              have f5 := N9.out.frozen 5
              refine until_step (j := 15) (by kernel_rfl) rfl (by kernel_rfl) (fun KX hKX => ?_)
              have HX := hid hKX
              clear hKX
              go_simp
              have N9x := hid (set6 N9.out (.int .i64 p.lsn) (.int .i64 p.kind) (.int .i64 p.level) (.int .i64 p.right) (.string (M.bs p.high)) (.slice a2 n2 c2))
              have N8x := hid (other6 N8.out (show g8 ≠ g9 by omega) (.int .i64 p.lsn) (.int .i64 p.kind) (.int .i64 p.level) (.int .i64 p.right) (.string (M.bs p.high)) (.slice a2 n2 c2))
              have Ix := hid (SC.mk (other6 I.out.b0 (show w.heap.size ≠ g9 by omega) (.int .i64 p.lsn) (.int .i64 p.kind) (.int .i64 p.level) (.int .i64 p.right) (.string (M.bs p.high)) (.slice a2 n2 c2)) (other6 I.out.b1 (show w.heap.size + 1 ≠ g9 by omega) (.int .i64 p.lsn) (.int .i64 p.kind) (.int .i64 p.level) (.int .i64 p.right) (.string (M.bs p.high)) (.slice a2 n2 c2)) (other6 I.out.b2 (show w.heap.size + 1 + 1 ≠ g9 by omega) (.int .i64 p.lsn) (.int .i64 p.kind) (.int .i64 p.level) (.int .i64 p.right) (.string (M.bs p.high)) (.slice a2 n2 c2)) (bel6 I.out.below (show w.heap.size ≤ g9 by omega) (.int .i64 p.lsn) (.int .i64 p.kind) (.int .i64 p.level) (.int .i64 p.right) (.string (M.bs p.high)) (.slice a2 n2 c2)))
              refine HX.out _ _ ⟨(fun h => by cases (Eq.trans (Eq.symm (show _ = true by kernel_rfl)) h)), ?_⟩
              clear HX d0 d1 d2 d3 d4 d5 f0 f1 f2 f3 f4 f5 I N9 N8
              generalize ((((((w25.setCell ⟨g9, 0, none⟩ (.int .i64 p.lsn)).setCell ⟨g9, 1, none⟩ (.int .i64 p.kind)).setCell ⟨g9, 2, none⟩ (.int .i64 p.level)).setCell ⟨g9, 3, none⟩ (.int .i64 p.right)).setCell ⟨g9, 4, none⟩ (.string (M.bs p.high))).setCell ⟨g9, 5, none⟩ (.slice a2 n2 c2)) = w26 at *
              have I := Ix
              have N9 := N9x
              have N8 := N8x
              clear Ix N9x N8x
              refine until_done (by kernel_rfl) ⟨rfl, g8, g9, ?_, by omega, by omega, by omega, N8.out, N9.out, I.out⟩ _
              kernel_rfl
        · skip
          refine wpOp_step rfl (fun KX hKX => ?_)
          have HX := hid hKX
          clear hKX
          go_simp
          have kk : Bel w5 (w5.alloc (.cells #[.int .i64 0, .int .i64 0, .int .i64 0, .int .i64 0, .string ⟨#[]⟩, .slice none 0 0] 33)) := Bel.al (Below.refl _ _) _
          obtain ⟨g8, hg8⟩ : ∃ g, g = w5.heap.size := ⟨_, rfl⟩
          have Zg8 := I.out.b2.lt
          rw [← hg8] at Zg8
          have N8 : Hid (Blk (w5.alloc (.cells #[.int .i64 0, .int .i64 0, .int .i64 0, .int .i64 0, .string ⟨#[]⟩, .slice none 0 0] 33)) g8 #[.int .i64 0, .int .i64 0, .int .i64 0, .int .i64 0, .string ⟨#[]⟩, .slice none 0 0] 33) := by rw [hg8]; exact Blk.new _ _ _
          have Ix := hid (I.out.bel kk)
          refine HX.out _ _ ⟨fun _ => Ix.out.b0, ?_⟩
          rw [← hg8]
          clear HX kk I hg8 
          have I := Ix
          clear Ix
          generalize w5.alloc (.cells #[.int .i64 0, .int .i64 0, .int .i64 0, .int .i64 0, .string ⟨#[]⟩, .slice none 0 0] 33) = w21 at *
          try simp only [Act.put]
          refine until_ready (rs := [5, 13]) (by kernel_rfl) (by simp) ?_
          intro jj hjj
          simp only [List.mem_cons, List.not_mem_nil, or_false] at hjj
          rcases hjj with rfl | rfl
          · skip
            refine wpOp_step rfl (fun KX hKX => ?_)
            have HX := hid hKX
            clear hKX
            go_simp
            refine (with_any p (some ⟨b, off, none⟩) p.es.length cap a1 n1 c1 w21).mono ?_
            rintro e w22 ⟨rfl, kk⟩
            have Ix := hid (I.out.bel kk)
            have N8x := hid (N8.out.below kk N8.out.lt)
            refine HX.out _ _ ⟨fun _ => Ix.out.b0, ?_⟩
            clear HX kk I N8
            have I := Ix
            clear Ix
            have N8 := N8x
            clear N8x
            try simp only [Act.put]
            refine until_ready (rs := [11, 13]) (by kernel_rfl) (by simp) ?_
            intro jj hjj
            simp only [List.mem_cons, List.not_mem_nil, or_false] at hjj
            rcases hjj with rfl | rfl
            · skip
              refine wpOp_step rfl (fun KX hKX => ?_)
              have HX := hid hKX
              clear hKX
              go_simp
              refine (with_any p (some ⟨b, off, none⟩) p.es.length cap a2 n2 c2 w22).mono ?_
              rintro e w23 ⟨rfl, kk⟩
              have Ix := hid (I.out.bel kk)
              have N8x := hid (N8.out.below kk N8.out.lt)
              refine HX.out _ _ ⟨fun _ => Ix.out.b0, ?_⟩
              clear HX kk I N8
              have I := Ix
              clear Ix
              have N8 := N8x
              clear N8x
              try simp only [Act.put]
              refine until_step (j := 13) (by kernel_rfl) rfl (by kernel_rfl) (fun KX hKX => ?_)
              have HX := hid hKX
              clear hKX
              go_simp
              have kk : Bel w23 (w23.alloc (.cells #[.int .i64 0, .int .i64 0, .int .i64 0, .int .i64 0, .string ⟨#[]⟩, .slice none 0 0] 33)) := Bel.al (Below.refl _ _) _
              obtain ⟨g9, hg9⟩ : ∃ g, g = w23.heap.size := ⟨_, rfl⟩
              have Zg9 := I.out.b2.lt
              rw [← hg9] at Zg9
              have N9 : Hid (Blk (w23.alloc (.cells #[.int .i64 0, .int .i64 0, .int .i64 0, .int .i64 0, .string ⟨#[]⟩, .slice none 0 0] 33)) g9 #[.int .i64 0, .int .i64 0, .int .i64 0, .int .i64 0, .string ⟨#[]⟩, .slice none 0 0] 33) := by rw [hg9]; exact Blk.new _ _ _
              have Ix := hid (I.out.bel kk)
              have N8x := hid (N8.out.below kk N8.out.lt)
              have hneN8 := N8.out.lt
              rw [← hg9] at hneN8
              refine HX.out _ _ ⟨fun _ => Ix.out.b0, ?_⟩
              rw [← hg9]
              clear HX kk I hg9 N8
              have I := Ix
              clear Ix
              have N8 := N8x
              clear N8x
              generalize w23.alloc (.cells #[.int .i64 0, .int .i64 0, .int .i64 0, .int .i64 0, .string ⟨#[]⟩, .slice none 0 0] 33) = w24 at *
              try simp only [Act.put]
              obtain ⟨d0, d1, d2, d3, d4, d5⟩ := blk_cells N8.out
              have f0 := N8.out.frozen 0
              have f1 := N8.out.frozen 1
              have f2 := N8.out.frozen 2
              have f3 := N8.out.frozen 3
              have f4 := N8.out.frozen 4
              have f5 := N8.out.frozen 5
              refine until_step (j := 14) (by kernel_rfl) rfl (by kernel_rfl) (fun KX hKX => ?_)
              have HX := hid hKX
              clear hKX
              go_simp
              have N8x := hid (set6 N8.out (.int .i64 p.lsn) (.int .i64 p.kind) (.int .i64 p.level) (.int .i64 p.right) (.string (M.bs p.high)) (.slice a1 n1 c1))
              have N9x := hid (other6 N9.out (show g9 ≠ g8 by omega) (.int .i64 p.lsn) (.int .i64 p.kind) (.int .i64 p.level) (.int .i64 p.right) (.string (M.bs p.high)) (.slice a1 n1 c1))
              have Ix := hid (SC.mk (other6 I.out.b0 (show w.heap.size ≠ g8 by omega) (.int .i64 p.lsn) (.int .i64 p.kind) (.int .i64 p.level) (.int .i64 p.right) (.string (M.bs p.high)) (.slice a1 n1 c1)) (other6 I.out.b1 (show w.heap.size + 1 ≠ g8 by omega) (.int .i64 p.lsn) (.int .i64 p.kind) (.int .i64 p.level) (.int .i64 p.right) (.string (M.bs p.high)) (.slice a1 n1 c1)) (other6 I.out.b2 (show w.heap.size + 1 + 1 ≠ g8 by omega) (.int .i64 p.lsn) (.int .i64 p.kind) (.int .i64 p.level) (.int .i64 p.right) (.string (M.bs p.high)) (.slice a1 n1 c1)) (bel6 I.out.below (show w.heap.size ≤ g8 by omega) (.int .i64 p.lsn) (.int .i64 p.kind) (.int .i64 p.level) (.int .i64 p.right) (.string (M.bs p.high)) (.slice a1 n1 c1)))
              refine HX.out _ _ ⟨(fun h => by cases (Eq.trans (Eq.symm (show _ = true by kernel_rfl)) h)), ?_⟩
              clear HX d0 d1 d2 d3 d4 d5 f0 f1 f2 f3 f4 f5 I N8 N9
              generalize ((((((w24.setCell ⟨g8, 0, none⟩ (.int .i64 p.lsn)).setCell ⟨g8, 1, none⟩ (.int .i64 p.kind)).setCell ⟨g8, 2, none⟩ (.int .i64 p.level)).setCell ⟨g8, 3, none⟩ (.int .i64 p.right)).setCell ⟨g8, 4, none⟩ (.string (M.bs p.high))).setCell ⟨g8, 5, none⟩ (.slice a1 n1 c1)) = w25 at *
              have I := Ix
              have N8 := N8x
              have N9 := N9x
              clear Ix N8x N9x
              try simp only [Act.put]
              obtain ⟨d0, d1, d2, d3, d4, d5⟩ := blk_cells N9.out
              have f0 := N9.out.frozen 0
              have f1 := N9.out.frozen 1
              have f2 := N9.out.frozen 2
              have f3 := N9.out.frozen 3
              have f4 := N9.out.frozen 4
              have f5 := N9.out.frozen 5
              refine until_step (j := 15) (by kernel_rfl) rfl (by kernel_rfl) (fun KX hKX => ?_)
              have HX := hid hKX
              clear hKX
              go_simp
              have N9x := hid (set6 N9.out (.int .i64 p.lsn) (.int .i64 p.kind) (.int .i64 p.level) (.int .i64 p.right) (.string (M.bs p.high)) (.slice a2 n2 c2))
              have N8x := hid (other6 N8.out (show g8 ≠ g9 by omega) (.int .i64 p.lsn) (.int .i64 p.kind) (.int .i64 p.level) (.int .i64 p.right) (.string (M.bs p.high)) (.slice a2 n2 c2))
              have Ix := hid (SC.mk (other6 I.out.b0 (show w.heap.size ≠ g9 by omega) (.int .i64 p.lsn) (.int .i64 p.kind) (.int .i64 p.level) (.int .i64 p.right) (.string (M.bs p.high)) (.slice a2 n2 c2)) (other6 I.out.b1 (show w.heap.size + 1 ≠ g9 by omega) (.int .i64 p.lsn) (.int .i64 p.kind) (.int .i64 p.level) (.int .i64 p.right) (.string (M.bs p.high)) (.slice a2 n2 c2)) (other6 I.out.b2 (show w.heap.size + 1 + 1 ≠ g9 by omega) (.int .i64 p.lsn) (.int .i64 p.kind) (.int .i64 p.level) (.int .i64 p.right) (.string (M.bs p.high)) (.slice a2 n2 c2)) (bel6 I.out.below (show w.heap.size ≤ g9 by omega) (.int .i64 p.lsn) (.int .i64 p.kind) (.int .i64 p.level) (.int .i64 p.right) (.string (M.bs p.high)) (.slice a2 n2 c2)))
              refine HX.out _ _ ⟨(fun h => by cases (Eq.trans (Eq.symm (show _ = true by kernel_rfl)) h)), ?_⟩
              clear HX d0 d1 d2 d3 d4 d5 f0 f1 f2 f3 f4 f5 I N9 N8
              generalize ((((((w25.setCell ⟨g9, 0, none⟩ (.int .i64 p.lsn)).setCell ⟨g9, 1, none⟩ (.int .i64 p.kind)).setCell ⟨g9, 2, none⟩ (.int .i64 p.level)).setCell ⟨g9, 3, none⟩ (.int .i64 p.right)).setCell ⟨g9, 4, none⟩ (.string (M.bs p.high))).setCell ⟨g9, 5, none⟩ (.slice a2 n2 c2)) = w26 at *
              have I := Ix
              have N9 := N9x
              have N8 := N8x
              clear Ix N9x N8x
              refine until_done (by kernel_rfl) ⟨rfl, g8, g9, ?_, by omega, by omega, by omega, N8.out, N9.out, I.out⟩ _
              kernel_rfl
            · skip
              refine wpOp_step rfl (fun KX hKX => ?_)
              have HX := hid hKX
              clear hKX
              go_simp
              have kk : Bel w22 (w22.alloc (.cells #[.int .i64 0, .int .i64 0, .int .i64 0, .int .i64 0, .string ⟨#[]⟩, .slice none 0 0] 33)) := Bel.al (Below.refl _ _) _
              obtain ⟨g9, hg9⟩ : ∃ g, g = w22.heap.size := ⟨_, rfl⟩
              have Zg9 := I.out.b2.lt
              rw [← hg9] at Zg9
              have N9 : Hid (Blk (w22.alloc (.cells #[.int .i64 0, .int .i64 0, .int .i64 0, .int .i64 0, .string ⟨#[]⟩, .slice none 0 0] 33)) g9 #[.int .i64 0, .int .i64 0, .int .i64 0, .int .i64 0, .string ⟨#[]⟩, .slice none 0 0] 33) := by rw [hg9]; exact Blk.new _ _ _
              have Ix := hid (I.out.bel kk)
              have N8x := hid (N8.out.below kk N8.out.lt)
              have hneN8 := N8.out.lt
              rw [← hg9] at hneN8
              refine HX.out _ _ ⟨fun _ => Ix.out.b0, ?_⟩
              rw [← hg9]
              clear HX kk I hg9 N8
              have I := Ix
              clear Ix
              have N8 := N8x
              clear N8x
              generalize w22.alloc (.cells #[.int .i64 0, .int .i64 0, .int .i64 0, .int .i64 0, .string ⟨#[]⟩, .slice none 0 0] 33) = w23 at *
              try simp only [Act.put]
              refine until_step (j := 11) (by kernel_rfl) rfl (by kernel_rfl) (fun KX hKX => ?_)
              have HX := hid hKX
              clear hKX
              go_simp
              refine (with_any p (some ⟨b, off, none⟩) p.es.length cap a2 n2 c2 w23).mono ?_
              rintro e w24 ⟨rfl, kk⟩
              have Ix := hid (I.out.bel kk)
              have N8x := hid (N8.out.below kk N8.out.lt)
              have N9x := hid (N9.out.below kk N9.out.lt)
              refine HX.out _ _ ⟨fun _ => Ix.out.b0, ?_⟩
              clear HX kk I N8 N9
              have I := Ix
              clear Ix
              have N8 := N8x
              clear N8x
              have N9 := N9x
              clear N9x
              try simp only [Act.put]
              obtain ⟨d0, d1, d2, d3, d4, d5⟩ := blk_cells N8.out
              have f0 := N8.out.frozen 0
              have f1 := N8.out.frozen 1
              have f2 := N8.out.frozen 2
              have f3 := N8.out.frozen 3
              have f4 := N8.out.frozen 4
              have f5 := N8.out.frozen 5
              refine until_step (j := 14) (by kernel_rfl) rfl (by kernel_rfl) (fun KX hKX => ?_)
              have HX := hid hKX
              clear hKX
              go_simp
              have N8x := hid (set6 N8.out (.int .i64 p.lsn) (.int .i64 p.kind) (.int .i64 p.level) (.int .i64 p.right) (.string (M.bs p.high)) (.slice a1 n1 c1))
              have N9x := hid (other6 N9.out (show g9 ≠ g8 by omega) (.int .i64 p.lsn) (.int .i64 p.kind) (.int .i64 p.level) (.int .i64 p.right) (.string (M.bs p.high)) (.slice a1 n1 c1))
              have Ix := hid (SC.mk (other6 I.out.b0 (show w.heap.size ≠ g8 by omega) (.int .i64 p.lsn) (.int .i64 p.kind) (.int .i64 p.level) (.int .i64 p.right) (.string (M.bs p.high)) (.slice a1 n1 c1)) (other6 I.out.b1 (show w.heap.size + 1 ≠ g8 by omega) (.int .i64 p.lsn) (.int .i64 p.kind) (.int .i64 p.level) (.int .i64 p.right) (.string (M.bs p.high)) (.slice a1 n1 c1)) (other6 I.out.b2 (show w.heap.size + 1 + 1 ≠ g8 by omega) (.int .i64 p.lsn) (.int .i64 p.kind) (.int .i64 p.level) (.int .i64 p.right) (.string (M.bs p.high)) (.slice a1 n1 c1)) (bel6 I.out.below (show w.heap.size ≤ g8 by omega) (.int .i64 p.lsn) (.int .i64 p.kind) (.int .i64 p.level) (.int .i64 p.right) (.string (M.bs p.high)) (.slice a1 n1 c1)))
              refine HX.out _ _ ⟨(fun h => by cases (Eq.trans (Eq.symm (show _ = true by kernel_rfl)) h)), ?_⟩
              clear HX d0 d1 d2 d3 d4 d5 f0 f1 f2 f3 f4 f5 I N8 N9
              generalize ((((((w24.setCell ⟨g8, 0, none⟩ (.int .i64 p.lsn)).setCell ⟨g8, 1, none⟩ (.int .i64 p.kind)).setCell ⟨g8, 2, none⟩ (.int .i64 p.level)).setCell ⟨g8, 3, none⟩ (.int .i64 p.right)).setCell ⟨g8, 4, none⟩ (.string (M.bs p.high))).setCell ⟨g8, 5, none⟩ (.slice a1 n1 c1)) = w25 at *
              have I := Ix
              have N8 := N8x
              have N9 := N9x
              clear Ix N8x N9x
              try simp only [Act.put]
              obtain ⟨d0, d1, d2, d3, d4, d5⟩ := blk_cells N9.out
              have f0 := N9.out.frozen 0
              have f1 := N9.out.frozen 1
              have f2 := N9.out.frozen 2
              have f3 := N9.out.frozen 3
              have f4 := N9.out.frozen 4
              have f5 := N9.out.frozen 5
              refine until_step (j := 15) (by kernel_rfl) rfl (by kernel_rfl) (fun KX hKX => ?_)
              have HX := hid hKX
              clear hKX
              go_simp
              have N9x := hid (set6 N9.out (.int .i64 p.lsn) (.int .i64 p.kind) (.int .i64 p.level) (.int .i64 p.right) (.string (M.bs p.high)) (.slice a2 n2 c2))
              have N8x := hid (other6 N8.out (show g8 ≠ g9 by omega) (.int .i64 p.lsn) (.int .i64 p.kind) (.int .i64 p.level) (.int .i64 p.right) (.string (M.bs p.high)) (.slice a2 n2 c2))
              have Ix := hid (SC.mk (other6 I.out.b0 (show w.heap.size ≠ g9 by omega) (.int .i64 p.lsn) (.int .i64 p.kind) (.int .i64 p.level) (.int .i64 p.right) (.string (M.bs p.high)) (.slice a2 n2 c2)) (other6 I.out.b1 (show w.heap.size + 1 ≠ g9 by omega) (.int .i64 p.lsn) (.int .i64 p.kind) (.int .i64 p.level) (.int .i64 p.right) (.string (M.bs p.high)) (.slice a2 n2 c2)) (other6 I.out.b2 (show w.heap.size + 1 + 1 ≠ g9 by omega) (.int .i64 p.lsn) (.int .i64 p.kind) (.int .i64 p.level) (.int .i64 p.right) (.string (M.bs p.high)) (.slice a2 n2 c2)) (bel6 I.out.below (show w.heap.size ≤ g9 by omega) (.int .i64 p.lsn) (.int .i64 p.kind) (.int .i64 p.level) (.int .i64 p.right) (.string (M.bs p.high)) (.slice a2 n2 c2)))
              refine HX.out _ _ ⟨(fun h => by cases (Eq.trans (Eq.symm (show _ = true by kernel_rfl)) h)), ?_⟩
              clear HX d0 d1 d2 d3 d4 d5 f0 f1 f2 f3 f4 f5 I N9 N8
              generalize ((((((w25.setCell ⟨g9, 0, none⟩ (.int .i64 p.lsn)).setCell ⟨g9, 1, none⟩ (.int .i64 p.kind)).setCell ⟨g9, 2, none⟩ (.int .i64 p.level)).setCell ⟨g9, 3, none⟩ (.int .i64 p.right)).setCell ⟨g9, 4, none⟩ (.string (M.bs p.high))).setCell ⟨g9, 5, none⟩ (.slice a2 n2 c2)) = w26 at *
              have I := Ix
              have N9 := N9x
              have N8 := N8x
              clear Ix N9x N8x
              refine until_done (by kernel_rfl) ⟨rfl, g8, g9, ?_, by omega, by omega, by omega, N8.out, N9.out, I.out⟩ _
              kernel_rfl
          · skip
            refine wpOp_step rfl (fun KX hKX => ?_)
            have HX := hid hKX
            clear hKX
            go_simp
            have kk : Bel w21 (w21.alloc (.cells #[.int .i64 0, .int .i64 0, .int .i64 0, .int .i64 0, .string ⟨#[]⟩, .slice none 0 0] 33)) := Bel.al (Below.refl _ _) _
            obtain ⟨g9, hg9⟩ : ∃ g, g = w21.heap.size := ⟨_, rfl⟩
            have Zg9 := I.out.b2.lt
            rw [← hg9] at Zg9
            have N9 : Hid (Blk (w21.alloc (.cells #[.int .i64 0, .int .i64 0, .int .i64 0, .int .i64 0, .string ⟨#[]⟩, .slice none 0 0] 33)) g9 #[.int .i64 0, .int .i64 0, .int .i64 0, .int .i64 0, .string ⟨#[]⟩, .slice none 0 0] 33) := by rw [hg9]; exact Blk.new _ _ _
            have Ix := hid (I.out.bel kk)
            have N8x := hid (N8.out.below kk N8.out.lt)
            have hneN8 := N8.out.lt
            rw [← hg9] at hneN8
            refine HX.out _ _ ⟨fun _ => Ix.out.b0, ?_⟩
            rw [← hg9]
            clear HX kk I hg9 N8
            have I := Ix
            clear Ix
            have N8 := N8x
            clear N8x
            generalize w21.alloc (.cells #[.int .i64 0, .int .i64 0, .int .i64 0, .int .i64 0, .string ⟨#[]⟩, .slice none 0 0] 33) = w22 at *
            try simp only [Act.put]
            refine until_step (j := 5) (by kernel_rfl) rfl (by kernel_rfl) (fun KX hKX => ?_)
            have HX := hid hKX
            clear hKX
            go_simp
            refine (with_any p (some ⟨b, off, none⟩) p.es.length cap a1 n1 c1 w22).mono ?_
            rintro e w23 ⟨rfl, kk⟩
            have Ix := hid (I.out.bel kk)
            have N8x := hid (N8.out.below kk N8.out.lt)
            have N9x := hid (N9.out.below kk N9.out.lt)
            refine HX.out _ _ ⟨fun _ => Ix.out.b0, ?_⟩
            clear HX kk I N8 N9
            have I := Ix
            clear Ix
            have N8 := N8x
            clear N8x
            have N9 := N9x
            clear N9x
            try simp only [Act.put]
            refine until_step (j := 11) (by kernel_rfl) rfl (by kernel_rfl) (fun KX hKX => ?_)
            have HX := hid hKX
            clear hKX
            go_simp
            refine (with_any p (some ⟨b, off, none⟩) p.es.length cap a2 n2 c2 w23).mono ?_
            rintro e w24 ⟨rfl, kk⟩
            have Ix := hid (I.out.bel kk)
            have N8x := hid (N8.out.below kk N8.out.lt)
            have N9x := hid (N9.out.below kk N9.out.lt)
            refine HX.out _ _ ⟨fun _ => Ix.out.b0, ?_⟩
            clear HX kk I N8 N9
            have I := Ix
            clear Ix
            have N8 := N8x
            clear N8x
            have N9 := N9x
            clear N9x
            try simp only [Act.put]
            obtain ⟨d0, d1, d2, d3, d4, d5⟩ := blk_cells N8.out
            have f0 := N8.out.frozen 0
            have f1 := N8.out.frozen 1
            have f2 := N8.out.frozen 2
            have f3 := N8.out.frozen 3
            have f4 := N8.out.frozen 4
            have f5 := N8.out.frozen 5
            refine until_step (j := 14) (by kernel_rfl) rfl (by kernel_rfl) (fun KX hKX => ?_)
            have HX := hid hKX
            clear hKX
            go_simp
            have N8x := hid (set6 N8.out (.int .i64 p.lsn) (.int .i64 p.kind) (.int .i64 p.level) (.int .i64 p.right) (.string (M.bs p.high)) (.slice a1 n1 c1))
            have N9x := hid (other6 N9.out (show g9 ≠ g8 by omega) (.int .i64 p.lsn) (.int .i64 p.kind) (.int .i64 p.level) (.int .i64 p.right) (.string (M.bs p.high)) (.slice a1 n1 c1))
            have Ix := hid (SC.mk (other6 I.out.b0 (show w.heap.size ≠ g8 by omega) (.int .i64 p.lsn) (.int .i64 p.kind) (.int .i64 p.level) (.int .i64 p.right) (.string (M.bs p.high)) (.slice a1 n1 c1)) (other6 I.out.b1 (show w.heap.size + 1 ≠ g8 by omega) (.int .i64 p.lsn) (.int .i64 p.kind) (.int .i64 p.level) (.int .i64 p.right) (.string (M.bs p.high)) (.slice a1 n1 c1)) (other6 I.out.b2 (show w.heap.size + 1 + 1 ≠ g8 by omega) (.int .i64 p.lsn) (.int .i64 p.kind) (.int .i64 p.level) (.int .i64 p.right) (.string (M.bs p.high)) (.slice a1 n1 c1)) (bel6 I.out.below (show w.heap.size ≤ g8 by omega) (.int .i64 p.lsn) (.int .i64 p.kind) (.int .i64 p.level) (.int .i64 p.right) (.string (M.bs p.high)) (.slice a1 n1 c1)))
            refine HX.out _ _ ⟨(fun h => by cases (Eq.trans (Eq.symm (show _ = true by kernel_rfl)) h)), ?_⟩
            clear HX d0 d1 d2 d3 d4 d5 f0 f1 f2 f3 f4 f5 I N8 N9
            generalize ((((((w24.setCell ⟨g8, 0, none⟩ (.int .i64 p.lsn)).setCell ⟨g8, 1, none⟩ (.int .i64 p.kind)).setCell ⟨g8, 2, none⟩ (.int .i64 p.level)).setCell ⟨g8, 3, none⟩ (.int .i64 p.right)).setCell ⟨g8, 4, none⟩ (.string (M.bs p.high))).setCell ⟨g8, 5, none⟩ (.slice a1 n1 c1)) = w25 at *
            have I := Ix
            have N8 := N8x
            have N9 := N9x
            clear Ix N8x N9x
            try simp only [Act.put]
            obtain ⟨d0, d1, d2, d3, d4, d5⟩ := blk_cells N9.out
            have f0 := N9.out.frozen 0
            have f1 := N9.out.frozen 1
            have f2 := N9.out.frozen 2
            have f3 := N9.out.frozen 3
            have f4 := N9.out.frozen 4
            have f5 := N9.out.frozen 5
            refine until_step (j := 15) (by kernel_rfl) rfl (by kernel_rfl) (fun KX hKX => ?_)
            have HX := hid hKX
            clear hKX
            go_simp
            have N9x := hid (set6 N9.out (.int .i64 p.lsn) (.int .i64 p.kind) (.int .i64 p.level) (.int .i64 p.right) (.string (M.bs p.high)) (.slice a2 n2 c2))
            have N8x := hid (other6 N8.out (show g8 ≠ g9 by omega) (.int .i64 p.lsn) (.int .i64 p.kind) (.int .i64 p.level) (.int .i64 p.right) (.string (M.bs p.high)) (.slice a2 n2 c2))
            have Ix := hid (SC.mk (other6 I.out.b0 (show w.heap.size ≠ g9 by omega) (.int .i64 p.lsn) (.int .i64 p.kind) (.int .i64 p.level) (.int .i64 p.right) (.string (M.bs p.high)) (.slice a2 n2 c2)) (other6 I.out.b1 (show w.heap.size + 1 ≠ g9 by omega) (.int .i64 p.lsn) (.int .i64 p.kind) (.int .i64 p.level) (.int .i64 p.right) (.string (M.bs p.high)) (.slice a2 n2 c2)) (other6 I.out.b2 (show w.heap.size + 1 + 1 ≠ g9 by omega) (.int .i64 p.lsn) (.int .i64 p.kind) (.int .i64 p.level) (.int .i64 p.right) (.string (M.bs p.high)) (.slice a2 n2 c2)) (bel6 I.out.below (show w.heap.size ≤ g9 by omega) (.int .i64 p.lsn) (.int .i64 p.kind) (.int .i64 p.level) (.int .i64 p.right) (.string (M.bs p.high)) (.slice a2 n2 c2)))
            refine HX.out _ _ ⟨(fun h => by cases (Eq.trans (Eq.symm (show _ = true by kernel_rfl)) h)), ?_⟩
            clear HX d0 d1 d2 d3 d4 d5 f0 f1 f2 f3 f4 f5 I N9 N8
            generalize ((((((w25.setCell ⟨g9, 0, none⟩ (.int .i64 p.lsn)).setCell ⟨g9, 1, none⟩ (.int .i64 p.kind)).setCell ⟨g9, 2, none⟩ (.int .i64 p.level)).setCell ⟨g9, 3, none⟩ (.int .i64 p.right)).setCell ⟨g9, 4, none⟩ (.string (M.bs p.high))).setCell ⟨g9, 5, none⟩ (.slice a2 n2 c2)) = w26 at *
            have I := Ix
            have N9 := N9x
            have N8 := N8x
            clear Ix N9x N8x
            refine until_done (by kernel_rfl) ⟨rfl, g8, g9, ?_, by omega, by omega, by omega, N8.out, N9.out, I.out⟩ _
            kernel_rfl
        · skip
          refine wpOp_step rfl (fun KX hKX => ?_)
          have HX := hid hKX
          clear hKX
          go_simp
          have kk : Bel w5 (w5.alloc (.cells #[.int .i64 0, .int .i64 0, .int .i64 0, .int .i64 0, .string ⟨#[]⟩, .slice none 0 0] 33)) := Bel.al (Below.refl _ _) _
          obtain ⟨g9, hg9⟩ : ∃ g, g = w5.heap.size := ⟨_, rfl⟩
          have Zg9 := I.out.b2.lt
          rw [← hg9] at Zg9
          have N9 : Hid (Blk (w5.alloc (.cells #[.int .i64 0, .int .i64 0, .int .i64 0, .int .i64 0, .string ⟨#[]⟩, .slice none 0 0] 33)) g9 #[.int .i64 0, .int .i64 0, .int .i64 0, .int .i64 0, .string ⟨#[]⟩, .slice none 0 0] 33) := by rw [hg9]; exact Blk.new _ _ _
          have Ix := hid (I.out.bel kk)
          refine HX.out _ _ ⟨fun _ => Ix.out.b0, ?_⟩
          rw [← hg9]
          clear HX kk I hg9 
          have I := Ix
          clear Ix
          generalize w5.alloc (.cells #[.int .i64 0, .int .i64 0, .int .i64 0, .int .i64 0, .string ⟨#[]⟩, .slice none 0 0] 33) = w21 at *
          try simp only [Act.put]
          refine until_ready (rs := [5, 12]) (by kernel_rfl) (by simp) ?_
          intro jj hjj
          simp only [List.mem_cons, List.not_mem_nil, or_false] at hjj
          rcases hjj with rfl | rfl
          · skip
            refine wpOp_step rfl (fun KX hKX => ?_)
            have HX := hid hKX
            clear hKX
            go_simp
            refine (with_any p (some ⟨b, off, none⟩) p.es.length cap a1 n1 c1 w21).mono ?_
            rintro e w22 ⟨rfl, kk⟩
            have Ix := hid (I.out.bel kk)
            have N9x := hid (N9.out.below kk N9.out.lt)
            refine HX.out _ _ ⟨fun _ => Ix.out.b0, ?_⟩
            clear HX kk I N9
            have I := Ix
            clear Ix
            have N9 := N9x
            clear N9x
            try simp only [Act.put]
            refine until_ready (rs := [11, 12]) (by kernel_rfl) (by simp) ?_
            intro jj hjj
            simp only [List.mem_cons, List.not_mem_nil, or_false] at hjj
            rcases hjj with rfl | rfl
            · skip
              refine wpOp_step rfl (fun KX hKX => ?_)
              have HX := hid hKX
              clear hKX
              go_simp
              refine (with_any p (some ⟨b, off, none⟩) p.es.length cap a2 n2 c2 w22).mono ?_
              rintro e w23 ⟨rfl, kk⟩
              have Ix := hid (I.out.bel kk)
              have N9x := hid (N9.out.below kk N9.out.lt)
              refine HX.out _ _ ⟨fun _ => Ix.out.b0, ?_⟩
              clear HX kk I N9
              have I := Ix
              clear Ix
              have N9 := N9x
              clear N9x
              try simp only [Act.put]
              refine until_step (j := 12) (by kernel_rfl) rfl (by kernel_rfl) (fun KX hKX => ?_)
              have HX := hid hKX
              clear hKX
              go_simp
              have kk : Bel w23 (w23.alloc (.cells #[.int .i64 0, .int .i64 0, .int .i64 0, .int .i64 0, .string ⟨#[]⟩, .slice none 0 0] 33)) := Bel.al (Below.refl _ _) _
              obtain ⟨g8, hg8⟩ : ∃ g, g = w23.heap.size := ⟨_, rfl⟩
              have Zg8 := I.out.b2.lt
              rw [← hg8] at Zg8
              have N8 : Hid (Blk (w23.alloc (.cells #[.int .i64 0, .int .i64 0, .int .i64 0, .int .i64 0, .string ⟨#[]⟩, .slice none 0 0] 33)) g8 #[.int .i64 0, .int .i64 0, .int .i64 0, .int .i64 0, .string ⟨#[]⟩, .slice none 0 0] 33) := by rw [hg8]; exact Blk.new _ _ _
              have Ix := hid (I.out.bel kk)
              have N9x := hid (N9.out.below kk N9.out.lt)
              have hneN9 := N9.out.lt
              rw [← hg8] at hneN9
              refine HX.out _ _ ⟨fun _ => Ix.out.b0, ?_⟩
              rw [← hg8]
              clear HX kk I hg8 N9
              have I := Ix
              clear Ix
              have N9 := N9x
              clear N9x
              generalize w23.alloc (.cells #[.int .i64 0, .int .i64 0, .int .i64 0, .int .i64 0, .string ⟨#[]⟩, .slice none 0 0] 33) = w24 at *
              try simp only [Act.put]
              obtain ⟨d0, d1, d2, d3, d4, d5⟩ := blk_cells N8.out
              have f0 := N8.out.frozen 0
              have f1 := N8.out.frozen 1
              have f2 := N8.out.frozen 2
              have f3 := N8.out.frozen 3
              have f4 := N8.out.frozen 4
              have f5 := N8.out.frozen 5
              refine until_step (j := 14) (by kernel_rfl) rfl (by kernel_rfl) (fun KX hKX => ?_)
              have HX := hid hKX
              clear hKX
              go_simp
              have N8x := hid (set6 N8.out (.int .i64 p.lsn) (.int .i64 p.kind) (.int .i64 p.level) (.int .i64 p.right) (.string (M.bs p.high)) (.slice a1 n1 c1))
              have N9x := hid (other6 N9.out (show g9 ≠ g8 by omega) (.int .i64 p.lsn) (.int .i64 p.kind) (.int .i64 p.level) (.int .i64 p.right) (.string (M.bs p.high)) (.slice a1 n1 c1))
              have Ix := hid (SC.mk (other6 I.out.b0 (show w.heap.size ≠ g8 by omega) (.int .i64 p.lsn) (.int .i64 p.kind) (.int .i64 p.level) (.int .i64 p.right) (.string (M.bs p.high)) (.slice a1 n1 c1)) (other6 I.out.b1 (show w.heap.size + 1 ≠ g8 by omega) (.int .i64 p.lsn) (.int .i64 p.kind) (.int .i64 p.level) (.int .i64 p.right) (.string (M.bs p.high)) (.slice a1 n1 c1)) (other6 I.out.b2 (show w.heap.size + 1 + 1 ≠ g8 by omega) (.int .i64 p.lsn) (.int .i64 p.kind) (.int .i64 p.level) (.int .i64 p.right) (.string (M.bs p.high)) (.slice a1 n1 c1)) (bel6 I.out.below (show w.heap.size ≤ g8 by omega) (.int .i64 p.lsn) (.int .i64 p.kind) (.int .i64 p.level) (.int .i64 p.right) (.string (M.bs p.high)) (.slice a1 n1 c1)))
              refine HX.out _ _ ⟨(fun h => by cases (Eq.trans (Eq.symm (show _ = true by kernel_rfl)) h)), ?_⟩
              clear HX d0 d1 d2 d3 d4 d5 f0 f1 f2 f3 f4 f5 I N8 N9
              generalize ((((((w24.setCell ⟨g8, 0, none⟩ (.int .i64 p.lsn)).setCell ⟨g8, 1, none⟩ (.int .i64 p.kind)).setCell ⟨g8, 2, none⟩ (.int .i64 p.level)).setCell ⟨g8, 3, none⟩ (.int .i64 p.right)).setCell ⟨g8, 4, none⟩ (.string (M.bs p.high))).setCell ⟨g8, 5, none⟩ (.slice a1 n1 c1)) = w25 at *
              have I := Ix
              have N8 := N8x
              have N9 := N9x
              clear Ix N8x N9x
              try simp only [Act.put]
              obtain ⟨d0, d1, d2, d3, d4, d5⟩ := blk_cells N9.out
              have f0 := N9.out.frozen 0
              have f1 := N9.out.frozen 1
              have f2 := N9.out.frozen 2
              have f3 := N9.out.frozen 3
              have f4 := N9.out.frozen 4
              have f5 := N9.out.frozen 5
              refine until_step (j := 15) (by kernel_rfl) rfl (by kernel_rfl) (fun KX hKX => ?_)
              have HX := hid hKX
              clear hKX
              go_simp
              have N9x := hid (set6 N9.out (.int .i64 p.lsn) (.int .i64 p.kind) (.int .i64 p.level) (.int .i64 p.right) (.string (M.bs p.high)) (.slice a2 n2 c2))
              have N8x := hid (other6 N8.out (show g8 ≠ g9 by omega) (.int .i64 p.lsn) (.int .i64 p.kind) (.int .i64 p.level) (.int .i64 p.right) (.string (M.bs p.high)) (.slice a2 n2 c2))
              have Ix := hid (SC.mk (other6 I.out.b0 (show w.heap.size ≠ g9 by omega) (.int .i64 p.lsn) (.int .i64 p.kind) (.int .i64 p.level) (.int .i64 p.right) (.string (M.bs p.high)) (.slice a2 n2 c2)) (other6 I.out.b1 (show w.heap.size + 1 ≠ g9 by omega) (.int .i64 p.lsn) (.int .i64 p.kind) (.int .i64 p.level) (.int .i64 p.right) (.string (M.bs p.high)) (.slice a2 n2 c2)) (other6 I.out.b2 (show w.heap.size + 1 + 1 ≠ g9 by omega) (.int .i64 p.lsn) (.int .i64 p.kind) (.int .i64 p.level) (.int .i64 p.right) (.string (M.bs p.high)) (.slice a2 n2 c2)) (bel6 I.out.below (show w.heap.size ≤ g9 by omega) (.int .i64 p.lsn) (.int .i64 p.kind) (.int .i64 p.level) (.int .i64 p.right) (.string (M.bs p.high)) (.slice a2 n2 c2)))
              refine HX.out _ _ ⟨(fun h => by cases (Eq.trans (Eq.symm (show _ = true by kernel_rfl)) h)), ?_⟩
              clear HX d0 d1 d2 d3 d4 d5 f0 f1 f2 f3 f4 f5 I N9 N8
              generalize ((((((w25.setCell ⟨g9, 0, none⟩ (.int .i64 p.lsn)).setCell ⟨g9, 1, none⟩ (.int .i64 p.kind)).setCell ⟨g9, 2, none⟩ (.int .i64 p.level)).setCell ⟨g9, 3, none⟩ (.int .i64 p.right)).setCell ⟨g9, 4, none⟩ (.string (M.bs p.high))).setCell ⟨g9, 5, none⟩ (.slice a2 n2 c2)) = w26 at *
              have I := Ix
              have N9 := N9x
              have N8 := N8x
              clear Ix N9x N8x
              refine until_done (by kernel_rfl) ⟨rfl, g8, g9, ?_, by omega, by omega, by omega, N8.out, N9.out, I.out⟩ _
              kernel_rfl
            · skip
              refine wpOp_step rfl (fun KX hKX => ?_)
              have HX := hid hKX
              clear hKX
              go_simp
              have kk : Bel w22 (w22.alloc (.cells #[.int .i64 0, .int .i64 0, .int .i64 0, .int .i64 0, .string ⟨#[]⟩, .slice none 0 0] 33)) := Bel.al (Below.refl _ _) _
              obtain ⟨g8, hg8⟩ : ∃ g, g = w22.heap.size := ⟨_, rfl⟩
              have Zg8 := I.out.b2.lt
              rw [← hg8] at Zg8
              have N8 : Hid (Blk (w22.alloc (.cells #[.int .i64 0, .int .i64 0, .int .i64 0, .int .i64 0, .string ⟨#[]⟩, .slice none 0 0] 33)) g8 #[.int .i64 0, .int .i64 0, .int .i64 0, .int .i64 0, .string ⟨#[]⟩, .slice none 0 0] 33) := by rw [hg8]; exact Blk.new _ _ _
              have Ix := hid (I.out.bel kk)
              have N9x := hid (N9.out.below kk N9.out.lt)
              have hneN9 := N9.out.lt
              rw [← hg8] at hneN9
              refine HX.out _ _ ⟨fun _ => Ix.out.b0, ?_⟩
              rw [← hg8]
              clear HX kk I hg8 N9
              have I := Ix
              clear Ix
              have N9 := N9x
              clear N9x
              generalize w22.alloc (.cells #[.int .i64 0, .int .i64 0, .int .i64 0, .int .i64 0, .string ⟨#[]⟩, .slice none 0 0] 33) = w23 at *
              try simp only [Act.put]
              refine until_step (j := 11) (by kernel_rfl) rfl (by kernel_rfl) (fun KX hKX => ?_)
              have HX := hid hKX
              clear hKX
              go_simp
              refine (with_any p (some ⟨b, off, none⟩) p.es.length cap a2 n2 c2 w23).mono ?_
              rintro e w24 ⟨rfl, kk⟩
              have Ix := hid (I.out.bel kk)
              have N8x := hid (N8.out.below kk N8.out.lt)
              have N9x := hid (N9.out.below kk N9.out.lt)
              refine HX.out _ _ ⟨fun _ => Ix.out.b0, ?_⟩
              clear HX kk I N8 N9
              have I := Ix
              clear Ix
              have N8 := N8x
              clear N8x
              have N9 := N9x
              clear N9x
              try simp only [Act.put]
              obtain ⟨d0, d1, d2, d3, d4, d5⟩ := blk_cells N8.out
              have f0 := N8.out.frozen 0
              have f1 := N8.out.frozen 1
              have f2 := N8.out.frozen 2
              have f3 := N8.out.frozen 3
              have f4 := N8.out.frozen 4
              have f5 := N8.out.frozen 5
              refine until_step (j := 14) (by kernel_rfl) rfl (by kernel_rfl) (fun KX hKX => ?_)
              have HX := hid hKX
              clear hKX
              go_simp
              have N8x := hid (set6 N8.out (.int .i64 p.lsn) (.int .i64 p.kind) (.int .i64 p.level) (.int .i64 p.right) (.string (M.bs p.high)) (.slice a1 n1 c1))
              have N9x := hid (other6 N9.out (show g9 ≠ g8 by omega) (.int .i64 p.lsn) (.int .i64 p.kind) (.int .i64 p.level) (.int .i64 p.right) (.string (M.bs p.high)) (.slice a1 n1 c1))
              have Ix := hid (SC.mk (other6 I.out.b0 (show w.heap.size ≠ g8 by omega) (.int .i64 p.lsn) (.int .i64 p.kind) (.int .i64 p.level) (.int .i64 p.right) (.string (M.bs p.high)) (.slice a1 n1 c1)) (other6 I.out.b1 (show w.heap.size + 1 ≠ g8 by omega) (.int .i64 p.lsn) (.int .i64 p.kind) (.int .i64 p.level) (.int .i64 p.right) (.string (M.bs p.high)) (.slice a1 n1 c1)) (other6 I.out.b2 (show w.heap.size + 1 + 1 ≠ g8 by omega) (.int .i64 p.lsn) (.int .i64 p.kind) (.int .i64 p.level) (.int .i64 p.right) (.string (M.bs p.high)) (.slice a1 n1 c1)) (bel6 I.out.below (show w.heap.size ≤ g8 by omega) (.int .i64 p.lsn) (.int .i64 p.kind) (.int .i64 p.level) (.int .i64 p.right) (.string (M.bs p.high)) (.slice a1 n1 c1)))
              refine HX.out _ _ ⟨(fun h => by cases (Eq.trans (Eq.symm (show _ = true by kernel_rfl)) h)), ?_⟩
              clear HX d0 d1 d2 d3 d4 d5 f0 f1 f2 f3 f4 f5 I N8 N9
              generalize ((((((w24.setCell ⟨g8, 0, none⟩ (.int .i64 p.lsn)).setCell ⟨g8, 1, none⟩ (.int .i64 p.kind)).setCell ⟨g8, 2, none⟩ (.int .i64 p.level)).setCell ⟨g8, 3, none⟩ (.int .i64 p.right)).setCell ⟨g8, 4, none⟩ (.string (M.bs p.high))).setCell ⟨g8, 5, none⟩ (.slice a1 n1 c1)) = w25 at *
              have I := Ix
              have N8 := N8x
              have N9 := N9x
              clear Ix N8x N9x
              try simp only [Act.put]
              obtain ⟨d0, d1, d2, d3, d4, d5⟩ := blk_cells N9.out
              have f0 := N9.out.frozen 0
              have f1 := N9.out.frozen 1
              have f2 := N9.out.frozen 2
              have f3 := N9.out.frozen 3
              have f4 := N9.out.frozen 4
              have f5 := N9.out.frozen 5
              refine until_step (j := 15) (by kernel_rfl) rfl (by kernel_rfl) (fun KX hKX => ?_)
              have HX := hid hKX
              clear hKX
              go_simp
              have N9x := hid (set6 N9.out (.int .i64 p.lsn) (.int .i64 p.kind) (.int .i64 p.level) (.int .i64 p.right) (.string (M.bs p.high)) (.slice a2 n2 c2))
              have N8x := hid (other6 N8.out (show g8 ≠ g9 by omega) (.int .i64 p.lsn) (.int .i64 p.kind) (.int .i64 p.level) (.int .i64 p.right) (.string (M.bs p.high)) (.slice a2 n2 c2))
              have Ix := hid (SC.mk (other6 I.out.b0 (show w.heap.size ≠ g9 by omega) (.int .i64 p.lsn) (.int .i64 p.kind) (.int .i64 p.level) (.int .i64 p.right) (.string (M.bs p.high)) (.slice a2 n2 c2)) (other6 I.out.b1 (show w.heap.size + 1 ≠ g9 by omega) (.int .i64 p.lsn) (.int .i64 p.kind) (.int .i64 p.level) (.int .i64 p.right) (.string (M.bs p.high)) (.slice a2 n2 c2)) (other6 I.out.b2 (show w.heap.size + 1 + 1 ≠ g9 by omega) (.int .i64 p.lsn) (.int .i64 p.kind) (.int .i64 p.level) (.int .i64 p.right) (.string (M.bs p.high)) (.slice a2 n2 c2)) (bel6 I.out.below (show w.heap.size ≤ g9 by omega) (.int .i64 p.lsn) (.int .i64 p.kind) (.int .i64 p.level) (.int .i64 p.right) (.string (M.bs p.high)) (.slice a2 n2 c2)))
              refine HX.out _ _ ⟨(fun h => by cases (Eq.trans (Eq.symm (show _ = true by kernel_rfl)) h)), ?_⟩
              clear HX d0 d1 d2 d3 d4 d5 f0 f1 f2 f3 f4 f5 I N9 N8
              generalize ((((((w25.setCell ⟨g9, 0, none⟩ (.int .i64 p.lsn)).setCell ⟨g9, 1, none⟩ (.int .i64 p.kind)).setCell ⟨g9, 2, none⟩ (.int .i64 p.level)).setCell ⟨g9, 3, none⟩ (.int .i64 p.right)).setCell ⟨g9, 4, none⟩ (.string (M.bs p.high))).setCell ⟨g9, 5, none⟩ (.slice a2 n2 c2)) = w26 at *
              have I := Ix
              have N9 := N9x
              have N8 := N8x
              clear Ix N9x N8x
              refine until_done (by kernel_rfl) ⟨rfl, g8, g9, ?_, by omega, by omega, by omega, N8.out, N9.out, I.out⟩ _
              kernel_rfl
          · skip
            refine wpOp_step rfl (fun KX hKX => ?_)
            have HX := hid hKX
            clear hKX
            go_simp
            have kk : Bel w21 (w21.alloc (.cells #[.int .i64 0, .int .i64 0, .int .i64 0, .int .i64 0, .string ⟨#[]⟩, .slice none 0 0] 33)) := Bel.al (Below.refl _ _) _
            obtain ⟨g8, hg8⟩ : ∃ g, g = w21.heap.size := ⟨_, rfl⟩
            have Zg8 := I.out.b2.lt
            rw [← hg8] at Zg8
            have N8 : Hid (Blk (w21.alloc (.cells #[.int .i64 0, .int .i64 0, .int .i64 0, .int .i64 0, .string ⟨#[]⟩, .slice none 0 0] 33)) g8 #[.int .i64 0, .int .i64 0, .int .i64 0, .int .i64 0, .string ⟨#[]⟩, .slice none 0 0] 33) := by rw [hg8]; exact Blk.new _ _ _
            have Ix := hid (I.out.bel kk)
            have N9x := hid (N9.out.below kk N9.out.lt)
            have hneN9 := N9.out.lt
            rw [← hg8] at hneN9
            refine HX.out _ _ ⟨fun _ => Ix.out.b0, ?_⟩
            rw [← hg8]
            clear HX kk I hg8 N9
            have I := Ix
            clear Ix
            have N9 := N9x
            clear N9x
            generalize w21.alloc (.cells #[.int .i64 0, .int .i64 0, .int .i64 0, .int .i64 0, .string ⟨#[]⟩, .slice none 0 0] 33) = w22 at *
            try simp only [Act.put]
            refine until_step (j := 5) (by kernel_rfl) rfl (by kernel_rfl) (fun KX hKX => ?_)
            have HX := hid hKX
            clear hKX
            go_simp
            refine (with_any p (some ⟨b, off, none⟩) p.es.length cap a1 n1 c1 w22).mono ?_
            rintro e w23 ⟨rfl, kk⟩
            have Ix := hid (I.out.bel kk)
            have N8x := hid (N8.out.below kk N8.out.lt)
            have N9x := hid (N9.out.below kk N9.out.lt)
            refine HX.out _ _ ⟨fun _ => Ix.out.b0, ?_⟩
            clear HX kk I N8 N9
            have I := Ix
            clear Ix
            have N8 := N8x
            clear N8x
            have N9 := N9x
            clear N9x
            try simp only [Act.put]
            refine until_step (j := 11) (by kernel_rfl) rfl (by kernel_rfl) (fun KX hKX => ?_)
            have HX := hid hKX
            clear hKX
            go_simp
            refine (with_any p (some ⟨b, off, none⟩) p.es.length cap a2 n2 c2 w23).mono ?_
            rintro e w24 ⟨rfl, kk⟩
            have Ix := hid (I.out.bel kk)
            have N8x := hid (N8.out.below kk N8.out.lt)
            have N9x := hid (N9.out.below kk N9.out.lt)
            refine HX.out _ _ ⟨fun _ => Ix.out.b0, ?_⟩
            clear HX kk I N8 N9
            have I := Ix
            clear Ix
            have N8 := N8x
            clear N8x
            have N9 := N9x
            clear N9x
            try simp only [Act.put]
            obtain ⟨d0, d1, d2, d3, d4, d5⟩ := blk_cells N8.out
            have f0 := N8.out.frozen 0
            have f1 := N8.out.frozen 1
            have f2 := N8.out.frozen 2
            have f3 := N8.out.frozen 3
            have f4 := N8.out.frozen 4
            have f5 := N8.out.frozen 5
            refine until_step (j := 14) (by kernel_rfl) rfl (by kernel_rfl) (fun KX hKX => ?_)
            have HX := hid hKX
            clear hKX
            go_simp
            have N8x := hid (set6 N8.out (.int .i64 p.lsn) (.int .i64 p.kind) (.int .i64 p.level) (.int .i64 p.right) (.string (M.bs p.high)) (.slice a1 n1 c1))
            have N9x := hid (other6 N9.out (show g9 ≠ g8 by omega) (.int .i64 p.lsn) (.int .i64 p.kind) (.int .i64 p.level) (.int .i64 p.right) (.string (M.bs p.high)) (.slice a1 n1 c1))
            have Ix := hid (SC.mk (other6 I.out.b0 (show w.heap.size ≠ g8 by omega) (.int .i64 p.lsn) (.int .i64 p.kind) (.int .i64 p.level) (.int .i64 p.right) (.string (M.bs p.high)) (.slice a1 n1 c1)) (other6 I.out.b1 (show w.heap.size + 1 ≠ g8 by omega) (.int .i64 p.lsn) (.int .i64 p.kind) (.int .i64 p.level) (.int .i64 p.right) (.string (M.bs p.high)) (.slice a1 n1 c1)) (other6 I.out.b2 (show w.heap.size + 1 + 1 ≠ g8 by omega) (.int .i64 p.lsn) (.int .i64 p.kind) (.int .i64 p.level) (.int .i64 p.right) (.string (M.bs p.high)) (.slice a1 n1 c1)) (bel6 I.out.below (show w.heap.size ≤ g8 by omega) (.int .i64 p.lsn) (.int .i64 p.kind) (.int .i64 p.level) (.int .i64 p.right) (.string (M.bs p.high)) (.slice a1 n1 c1)))
            refine HX.out _ _ ⟨(fun h => by cases (Eq.trans (Eq.symm (show _ = true by kernel_rfl)) h)), ?_⟩
            clear HX d0 d1 d2 d3 d4 d5 f0 f1 f2 f3 f4 f5 I N8 N9
            generalize ((((((w24.setCell ⟨g8, 0, none⟩ (.int .i64 p.lsn)).setCell ⟨g8, 1, none⟩ (.int .i64 p.kind)).setCell ⟨g8, 2, none⟩ (.int .i64 p.level)).setCell ⟨g8, 3, none⟩ (.int .i64 p.right)).setCell ⟨g8, 4, none⟩ (.string (M.bs p.high))).setCell ⟨g8, 5, none⟩ (.slice a1 n1 c1)) = w25 at *
            have I := Ix
            have N8 := N8x
            have N9 := N9x
            clear Ix N8x N9x
            try simp only [Act.put]
            obtain ⟨d0, d1, d2, d3, d4, d5⟩ := blk_cells N9.out
            have f0 := N9.out.frozen 0
            have f1 := N9.out.frozen 1
            have f2 := N9.out.frozen 2
            have f3 := N9.out.frozen 3
            have f4 := N9.out.frozen 4
            have f5 := N9.out.frozen 5
            refine until_step (j := 15) (by kernel_rfl) rfl (by kernel_rfl) (fun KX hKX => ?_)
            have HX := hid hKX
            clear hKX
            go_simp
            have N9x := hid (set6 N9.out (.int .i64 p.lsn) (.int .i64 p.kind) (.int .i64 p.level) (.int .i64 p.right) (.string (M.bs p.high)) (.slice a2 n2 c2))
            have N8x := hid (other6 N8.out (show g8 ≠ g9 by omega) (.int .i64 p.lsn) (.int .i64 p.kind) (.int .i64 p.level) (.int .i64 p.right) (.string (M.bs p.high)) (.slice a2 n2 c2))
            have Ix := hid (SC.mk (other6 I.out.b0 (show w.heap.size ≠ g9 by omega) (.int .i64 p.lsn) (.int .i64 p.kind) (.int .i64 p.level) (.int .i64 p.right) (.string (M.bs p.high)) (.slice a2 n2 c2)) (other6 I.out.b1 (show w.heap.size + 1 ≠ g9 by omega) (.int .i64 p.lsn) (.int .i64 p.kind) (.int .i64 p.level) (.int .i64 p.right) (.string (M.bs p.high)) (.slice a2 n2 c2)) (other6 I.out.b2 (show w.heap.size + 1 + 1 ≠ g9 by omega) (.int .i64 p.lsn) (.int .i64 p.kind) (.int .i64 p.level) (.int .i64 p.right) (.string (M.bs p.high)) (.slice a2 n2 c2)) (bel6 I.out.below (show w.heap.size ≤ g9 by omega) (.int .i64 p.lsn) (.int .i64 p.kind) (.int .i64 p.level) (.int .i64 p.right) (.string (M.bs p.high)) (.slice a2 n2 c2)))
            refine HX.out _ _ ⟨(fun h => by cases (Eq.trans (Eq.symm (show _ = true by kernel_rfl)) h)), ?_⟩
            clear HX d0 d1 d2 d3 d4 d5 f0 f1 f2 f3 f4 f5 I N9 N8
            generalize ((((((w25.setCell ⟨g9, 0, none⟩ (.int .i64 p.lsn)).setCell ⟨g9, 1, none⟩ (.int .i64 p.kind)).setCell ⟨g9, 2, none⟩ (.int .i64 p.level)).setCell ⟨g9, 3, none⟩ (.int .i64 p.right)).setCell ⟨g9, 4, none⟩ (.string (M.bs p.high))).setCell ⟨g9, 5, none⟩ (.slice a2 n2 c2)) = w26 at *
            have I := Ix
            have N9 := N9x
            have N8 := N8x
            clear Ix N9x N8x
            refine until_done (by kernel_rfl) ⟨rfl, g8, g9, ?_, by omega, by omega, by omega, N8.out, N9.out, I.out⟩ _
            kernel_rfl
      rintro g8 g9 w12 ⟨hne, hn8, hn9, k8, k9, ki⟩
      have L8 := hid k8
      have L9 := hid k9
      have LI := hid ki
      clear k8 k9 ki cut rst HI2
      refine HL.out _ _ ?_
      clear HL
      try simp only [Act.put]
      obtain ⟨s0, s1, s2, s3, s4, s5⟩ := blk_cells LI.out.b0
      obtain ⟨u0, u1, u2, u3, u4, u5⟩ := blk_cells L8.out
      have v3 := L8.out.frozen 3
      have v4 := L8.out.frozen 4
      have e0 := (HROW.out w12 LI.out.below i hin).1
      have hii2 : (i : Int) < (p.es.length : Int) := by omega
      go_wp2_with fail
      have M8 : Hid (Blk ((w12.setCell ⟨g8, 4, none⟩ (.string (M.bs (p.es[i]'hin).1))).setCell ⟨g8, 3, none⟩ (.int .i64 r)) g8 #[.int .i64 p.lsn, .int .i64 p.kind, .int .i64 p.level, .int .i64 r, .string (M.bs (p.es[i]'hin).1), .slice a1 n1 c1] 33) := hid (by
        have z := (L8.out.set 4 (.string (M.bs (p.es[i]'hin).1))).set 3 (.int .i64 r)
        simpa using z)
      have M9 : Hid (Blk ((w12.setCell ⟨g8, 4, none⟩ (.string (M.bs (p.es[i]'hin).1))).setCell ⟨g8, 3, none⟩ (.int .i64 r)) g9 #[.int .i64 p.lsn, .int .i64 p.kind, .int .i64 p.level, .int .i64 p.right, .string (M.bs p.high), .slice a2 n2 c2] 33) := blk_other (blk_other L9.out (fun e => hne e.symm) _ _) (fun e => hne e.symm) _ _
      have MI := hid ((LI.out.other (B := g8) hn8 4 (.string (M.bs (p.es[i]'hin).1))).other (B := g8) hn8 3 (.int .i64 r))
      clear s0 s1 s2 s3 s4 s5 u0 u1 u2 u3 u4 u5 v3 v4 e0 L8 L9 LI hii2
      generalize (w12.setCell ⟨g8, 4, none⟩ (.string (M.bs (p.es[i]'hin).1))).setCell ⟨g8, 3, none⟩ (.int .i64 r) = w13 at *
      refine wp_last fun KL hKL => ?_
      have HL := hid hKL
      clear hKL
      refine region_until (S := fun W : World => Blk W g8 #[.int .i64 p.lsn, .int .i64 p.kind, .int .i64 p.level, .int .i64 r, .string (M.bs (p.es[i]'hin).1), .slice a1 n1 c1] 33 ∧ Blk W g9 #[.int .i64 p.lsn, .int .i64 p.kind, .int .i64 p.level, .int .i64 p.right, .string (M.bs p.high), .slice a2 n2 c2] 33) (m := 4) (by kernel_rfl) ?_
      have b12 : Bel w13 w13.drew := Bel.dr (Below.refl _ _)
      have N8 : Hid (Blk w13.drew g8 #[.int .i64 p.lsn, .int .i64 p.kind, .int .i64 p.level, .int .i64 r, .string (M.bs (p.es[i]'hin).1), .slice a1 n1 c1] 33) := M8.out
      have N9 : Hid (Blk w13.drew g9 #[.int .i64 p.lsn, .int .i64 p.kind, .int .i64 p.level, .int .i64 p.right, .string (M.bs p.high), .slice a2 n2 c2] 33) := M9.out
      have NI := hid (MI.out.bel b12)
      clear M8 M9 MI b12
      generalize w13.drew = w14 at *
      have hS := And.intro N8.out N9.out
      refine take_next (i := 0) (.agg #[.int .i64 p.lsn, .int .i64 p.kind, .int .i64 p.level, .int .i64 r, .string (M.bs (p.es[i]'hin).1), .slice a1 n1 c1]) [2, 3, 4] (by kernel_rfl) (by kernel_rfl) rfl (by kernel_rfl) (by kernel_rfl) (by kernel_rfl) (by kernel_rfl) (fun _ _ _ h => absurd h.1 (by simp)) (Or.inl ⟨by rfl, fun w' hSw => by obtain ⟨s0, s1, s2, s3, s4, s5⟩ := blk_cells hSw.1; go_simp⟩) hS ?_
      try simp only [Act.put]
      refine take_next (i := 1) (.agg #[.int .i64 p.lsn, .int .i64 p.kind, .int .i64 p.level, .int .i64 p.right, .string (M.bs p.high), .slice a2 n2 c2]) [3, 4] (by kernel_rfl) (by kernel_rfl) rfl (by kernel_rfl) (by kernel_rfl) (by kernel_rfl) (by kernel_rfl) (fun _ _ _ h => absurd h.1 (by simp)) (Or.inl ⟨by rfl, fun w' hSw => by obtain ⟨s0, s1, s2, s3, s4, s5⟩ := blk_cells hSw.2; go_simp⟩) hS ?_
      try simp only [Act.put]
      obtain ⟨t0, t1, t2, t3, t4, t5⟩ := blk_cells NI.out.b1
      have f0 := NI.out.b1.frozen 0
      have f1 := NI.out.b1.frozen 1
      have f2 := NI.out.b1.frozen 2
      have f3 := NI.out.b1.frozen 3
      have f4 := NI.out.b1.frozen 4
      have f5 := NI.out.b1.frozen 5
      refine until_step (j := 2) (by kernel_rfl) rfl (by kernel_rfl) (fun KX hKX => ?_)
      have HX := hid hKX
      clear hKX
      go_simp
      have V1 := hid (set6 NI.out.b1 (.int .i64 p.lsn) (.int .i64 p.kind) (.int .i64 p.level) (.int .i64 r) (.string (M.bs (p.es[i]'hin).1)) (.slice a1 n1 c1))
      have V2 := hid (other6 NI.out.b2 (show w.heap.size + 1 + 1 ≠ w.heap.size + 1 by omega) (.int .i64 p.lsn) (.int .i64 p.kind) (.int .i64 p.level) (.int .i64 r) (.string (M.bs (p.es[i]'hin).1)) (.slice a1 n1 c1))
      have VB := hid (bel6 NI.out.below (show w.heap.size ≤ w.heap.size + 1 by omega) (.int .i64 p.lsn) (.int .i64 p.kind) (.int .i64 p.level) (.int .i64 r) (.string (M.bs (p.es[i]'hin).1)) (.slice a1 n1 c1))
      have VS : Hid ((fun W : World => Blk W g8 #[.int .i64 p.lsn, .int .i64 p.kind, .int .i64 p.level, .int .i64 r, .string (M.bs (p.es[i]'hin).1), .slice a1 n1 c1] 33 ∧ Blk W g9 #[.int .i64 p.lsn, .int .i64 p.kind, .int .i64 p.level, .int .i64 p.right, .string (M.bs p.high), .slice a2 n2 c2] 33) ((((((w14.setCell ⟨w.heap.size + 1, 0, none⟩ (.int .i64 p.lsn)).setCell ⟨w.heap.size + 1, 1, none⟩ (.int .i64 p.kind)).setCell ⟨w.heap.size + 1, 2, none⟩ (.int .i64 p.level)).setCell ⟨w.heap.size + 1, 3, none⟩ (.int .i64 r)).setCell ⟨w.heap.size + 1, 4, none⟩ (.string (M.bs (p.es[i]'hin).1))).setCell ⟨w.heap.size + 1, 5, none⟩ (.slice a1 n1 c1))) := And.intro (other6 N8.out (by omega) (.int .i64 p.lsn) (.int .i64 p.kind) (.int .i64 p.level) (.int .i64 r) (.string (M.bs (p.es[i]'hin).1)) (.slice a1 n1 c1)) (other6 N9.out (by omega) (.int .i64 p.lsn) (.int .i64 p.kind) (.int .i64 p.level) (.int .i64 r) (.string (M.bs (p.es[i]'hin).1)) (.slice a1 n1 c1))
      refine HX.out _ _ ⟨fun _ => VS.out, ?_⟩
      clear HX t0 t1 t2 t3 t4 t5 f0 f1 f2 f3 f4 f5 NI N8 N9 hS
      generalize ((((((w14.setCell ⟨w.heap.size + 1, 0, none⟩ (.int .i64 p.lsn)).setCell ⟨w.heap.size + 1, 1, none⟩ (.int .i64 p.kind)).setCell ⟨w.heap.size + 1, 2, none⟩ (.int .i64 p.level)).setCell ⟨w.heap.size + 1, 3, none⟩ (.int .i64 r)).setCell ⟨w.heap.size + 1, 4, none⟩ (.string (M.bs (p.es[i]'hin).1))).setCell ⟨w.heap.size + 1, 5, none⟩ (.slice a1 n1 c1)) = w15 at *
      try simp only [Act.put]
      obtain ⟨t0, t1, t2, t3, t4, t5⟩ := blk_cells V2.out
      have f0 := V2.out.frozen 0
      have f1 := V2.out.frozen 1
      have f2 := V2.out.frozen 2
      have f3 := V2.out.frozen 3
      have f4 := V2.out.frozen 4
      have f5 := V2.out.frozen 5
      refine until_step (j := 3) (by kernel_rfl) rfl (by kernel_rfl) (fun KX hKX => ?_)
      have HX := hid hKX
      clear hKX
      go_simp
      have Y1 := hid (other6 V1.out (show w.heap.size + 1 ≠ w.heap.size + 1 + 1 by omega) (.int .i64 p.lsn) (.int .i64 p.kind) (.int .i64 p.level) (.int .i64 p.right) (.string (M.bs p.high)) (.slice a2 n2 c2))
      have Y2 := hid (set6 V2.out (.int .i64 p.lsn) (.int .i64 p.kind) (.int .i64 p.level) (.int .i64 p.right) (.string (M.bs p.high)) (.slice a2 n2 c2))
      have YB := hid (bel6 VB.out (show w.heap.size ≤ w.heap.size + 1 + 1 by omega) (.int .i64 p.lsn) (.int .i64 p.kind) (.int .i64 p.level) (.int .i64 p.right) (.string (M.bs p.high)) (.slice a2 n2 c2))
      have YS : Hid ((fun W : World => Blk W g8 #[.int .i64 p.lsn, .int .i64 p.kind, .int .i64 p.level, .int .i64 r, .string (M.bs (p.es[i]'hin).1), .slice a1 n1 c1] 33 ∧ Blk W g9 #[.int .i64 p.lsn, .int .i64 p.kind, .int .i64 p.level, .int .i64 p.right, .string (M.bs p.high), .slice a2 n2 c2] 33) ((((((w15.setCell ⟨w.heap.size + 1 + 1, 0, none⟩ (.int .i64 p.lsn)).setCell ⟨w.heap.size + 1 + 1, 1, none⟩ (.int .i64 p.kind)).setCell ⟨w.heap.size + 1 + 1, 2, none⟩ (.int .i64 p.level)).setCell ⟨w.heap.size + 1 + 1, 3, none⟩ (.int .i64 p.right)).setCell ⟨w.heap.size + 1 + 1, 4, none⟩ (.string (M.bs p.high))).setCell ⟨w.heap.size + 1 + 1, 5, none⟩ (.slice a2 n2 c2))) := And.intro (other6 VS.out.1 (by omega) (.int .i64 p.lsn) (.int .i64 p.kind) (.int .i64 p.level) (.int .i64 p.right) (.string (M.bs p.high)) (.slice a2 n2 c2)) (other6 VS.out.2 (by omega) (.int .i64 p.lsn) (.int .i64 p.kind) (.int .i64 p.level) (.int .i64 p.right) (.string (M.bs p.high)) (.slice a2 n2 c2))
      refine HX.out _ _ ⟨fun _ => YS.out, ?_⟩
      clear HX t0 t1 t2 t3 t4 t5 f0 f1 f2 f3 f4 f5 V1 V2 VB VS
      generalize ((((((w15.setCell ⟨w.heap.size + 1 + 1, 0, none⟩ (.int .i64 p.lsn)).setCell ⟨w.heap.size + 1 + 1, 1, none⟩ (.int .i64 p.kind)).setCell ⟨w.heap.size + 1 + 1, 2, none⟩ (.int .i64 p.level)).setCell ⟨w.heap.size + 1 + 1, 3, none⟩ (.int .i64 p.right)).setCell ⟨w.heap.size + 1 + 1, 4, none⟩ (.string (M.bs p.high))).setCell ⟨w.heap.size + 1 + 1, 5, none⟩ (.slice a2 n2 c2)) = w16 at *
      try simp only [Act.put]
      refine until_step (j := 4) (by kernel_rfl) rfl (by kernel_rfl) (fun KX hKX => ?_)
      have HX := hid hKX
      clear hKX
      go_simp
      refine HX.out _ _ ⟨(fun h => by cases (Eq.trans (Eq.symm (show _ = true by kernel_rfl)) h)), ?_⟩
      clear HX
      try simp only [Act.put]
      refine until_done (by kernel_rfl) ⟨rfl, ?_⟩ _
      refine HL.out _ _ ?_
      clear HL
      go_wp2_with fail
      refine bodyPost_ret (results_cells3 (p := 4) (q := 5) (ty := 33) (u := 6) rfl _ _ (w.heap.size + 1) _ (w.heap.size + 1 + 1) _ rfl rfl (load33 Y1.out rfl) (load33 Y2.out rfl)) rfl ?_
      exact ⟨i, hin, ⟨hi1, hi2, HJ.out, HE.out⟩, _, _, by rw [List.getElem?_eq_getElem hin]; rfl, HVC.out _ YB.out, HVR.out _ YB.out, YB.out⟩
end Go.Proofs.Ytcmplklefeicbaa
