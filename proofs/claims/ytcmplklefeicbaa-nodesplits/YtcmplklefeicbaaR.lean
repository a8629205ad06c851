/-
  The contract of node's rises, walked.
-/
import Derived.Test.YtcmplklefeicbaaK
namespace Go.Proofs.Ytcmplklefeicbaa.M
/-- The entry at j is in order, and covered. -/
def okAt (high : List UInt8) (es : List En) (j : Nat) : Bool := (decide (j = 0) || ltS (es[j - 1]?.getD ([], [], false)).1 (es[j]?.getD ([], [], false)).1) && cov high (es[j]?.getD ([], [], false)).1
def rises (high : List UInt8) (es : List En) : Bool := (List.range es.length).all (okAt high es)
theorem rises_no {high : List UInt8} {es : List En} {j : Nat} (hj : j < es.length) (h : okAt high es j = false) : rises high es = false := by
  cases hr : rises high es with
  | false => rfl
  | true =>
    have := List.all_eq_true.1 hr j (List.mem_range.2 hj)
    rw [h] at this; cases this
theorem rises_yes {high : List UInt8} {es : List En} (h : ∀ j, j < es.length → okAt high es j = true) : rises high es = true :=
  List.all_eq_true.2 fun j hj => h j (List.mem_range.1 hj)
end Go.Proofs.Ytcmplklefeicbaa.M
namespace Go.Proofs.Ytcmplklefeicbaa
open Go.RowKit
set_option maxRecDepth 100000

theorem until_step {P : Program} {md : Region.Mode} {ops : Array Oper} {Q : Exit → Go.Act → World → Prop} {S : World → Prop} {m j n : Nat} {o : Oper} {l : Array Bool} {a : Go.Act} {w : World} (hr : Region.ready md ops l = [j]) (ho : ops[j]? = some o) (hw : Region.wanted o (yielded ops a.tmps) = true)
    (h : ∀ K' : Go.Act → World → Prop, (∀ a' w', (((l.setIfInBounds j true).getD m true = false → S w') ∧ untilM P md ops Q S m n (l.setIfInBounds j true) a' w') → K' a' w') → Oper.wp P o a w K' Q) : untilM P md ops Q S m (n + 1) l a w :=
  until_ready hr (by simp) (fun j' hj' => by
    obtain rfl := List.mem_singleton.1 hj'
    refine wpOp_step ho (fun KX hKX => ?_)
    rw [if_pos hw]
    exact h KX hKX)
set_option maxHeartbeats 16000000 in
theorem rises_some (p : M.Pg) (b off cap : Nat) (w : World) (hs : Sm p) (hr : Row3 w b off p.es) (hb : b < w.heap.size) (hL : 0 < p.es.length) :
    Calls Try.prog 35 #[pv p (.slice (some ⟨b, off, none⟩) p.es.length cap)] w fun e w' => e = .returned (.bool (M.rises p.high p.es)) ∧ Bel w w' := by
  have h2 := hs.es
  have HC0 : Hid (∀ W, Bel (w.alloc (.cells #[.int .i64 p.lsn, .int .i64 p.kind, .int .i64 p.level, .int .i64 p.right, .string (M.bs p.high), .slice (some ⟨b, off, none⟩) p.es.length cap] 30)) W → Blk W w.heap.size #[.int .i64 p.lsn, .int .i64 p.kind, .int .i64 p.level, .int .i64 p.right, .string (M.bs p.high), .slice (some ⟨b, off, none⟩) p.es.length cap] 30 ∧ Row3 W b off p.es ∧ Bel w W) := fun W hW => by
    have hBW : Bel w W := (Bel.al (Below.refl _ _) _).tr hW
    exact ⟨(Blk.new w _ 30).below hW (Blk.new w _ 30).lt, hr.below hBW hb, hBW⟩
  have hB0 := Below.refl (w.alloc (.cells #[.int .i64 p.lsn, .int .i64 p.kind, .int .i64 p.level, .int .i64 p.right, .string (M.bs p.high), .slice (some ⟨b, off, none⟩) p.es.length cap] 30)).heap.size (w.alloc (.cells #[.int .i64 p.lsn, .int .i64 p.kind, .int .i64 p.level, .int .i64 p.right, .string (M.bs p.high), .slice (some ⟨b, off, none⟩) p.es.length cap] 30))
  go_enter Try.func35, Try.ntmps35
  go_wp2_with fail
  generalize w.alloc (.cells #[.int .i64 p.lsn, .int .i64 p.kind, .int .i64 p.level, .int .i64 p.right, .string (M.bs p.high), .slice (some ⟨b, off, none⟩) p.es.length cap] 30) = w1 at *
  go_loopw [8] (fun iv wr => ∃ i : Nat, i ≤ p.es.length ∧ iv = .int .i64 i ∧ (∀ j, j < i → M.okAt p.high p.es j = true) ∧ Bel w1 wr) (fun iv _ => p.es.length - (intOf iv).toNat)
  case atStart => exact ⟨0, by omega, rfl, fun j hj => absurd hj (by omega), hB0⟩
  case round =>
    obtain ⟨i, hi, rfl, hok, hbr⟩ := hrel
    by_cases hlt : i < p.es.length
    · obtain ⟨hB1, hR1, hW1⟩ := HC0.out wr hbr
      obtain ⟨c1, c2, c3⟩ := hR1 i hlt
      have hii : (i : Int) < (p.es.length : Int) := by omega
      have HOK := hid hok
      have HK : Hid (M.okAt p.high p.es i = ((decide (i = 0) || M.ltS (p.es[i - 1]?.getD ([], [], false)).1 p.es[i].1) && M.cov p.high p.es[i].1)) := by show _ = _; simp [M.okAt, hlt]
      obtain ⟨g, hg⟩ : ∃ g, g = wr.heap.size := ⟨_, rfl⟩
      have hW2 : Bel wr (wr.alloc (.cells #[.string (M.bs p.es[i].1), .string (M.bs p.es[i].2.1), .bool p.es[i].2.2] 40)) := Bel.al (Below.refl _ _) _
      have hE2 : Blk (wr.alloc (.cells #[.string (M.bs p.es[i].1), .string (M.bs p.es[i].2.1), .bool p.es[i].2.2] 40)) g #[.string (M.bs p.es[i].1), .string (M.bs p.es[i].2.1), .bool p.es[i].2.2] 40 := by rw [hg]; exact Blk.new _ _ _
      go_wp2_with fail
      rw [← hg]
      generalize p.es[i].2.1 = vv at *
      generalize p.es[i].2.2 = mm at *
      generalize p.es[i].1 = x at *
      generalize wr.alloc (.cells #[.string (M.bs x), .string (M.bs vv), .bool mm] 40) = w2 at *
      have hb2 := hbr.tr hW2
      have hcov := fun W => covers_any p (.slice (some ⟨b, off, none⟩) p.es.length cap) x _ p.es.length cap rfl W
      have z1 : (M.bs x).toList = x := M.bs_toList _
      clear c1 c2 c3 hB1 hok hg hs hr hb hL hR1
      by_cases h0 : i = 0
      · subst h0
        have HCS : ∀ W, Bel w2 W → (fun W : World => W.cell? ⟨w.heap.size, 0, none⟩ = some (.int .i64 p.lsn) ∧ W.cell? ⟨w.heap.size, 1, none⟩ = some (.int .i64 p.kind) ∧ W.cell? ⟨w.heap.size, 2, none⟩ = some (.int .i64 p.level) ∧ W.cell? ⟨w.heap.size, 3, none⟩ = some (.int .i64 p.right) ∧ W.cell? ⟨w.heap.size, 4, none⟩ = some (.string (M.bs p.high)) ∧ W.cell? ⟨w.heap.size, 5, none⟩ = some (.slice (some ⟨b, off, none⟩) p.es.length cap) ∧ W.cell? ⟨g, 0, none⟩ = some (.string (M.bs x)) ∧ True) W := fun W hW => by
          obtain ⟨hB, hRW, _⟩ := HC0.out W (hb2.tr hW)
          exact ⟨by rw [hB.cell]; rfl, by rw [hB.cell]; rfl, by rw [hB.cell]; rfl, by rw [hB.cell]; rfl, by rw [hB.cell]; rfl, by rw [hB.cell]; rfl, by rw [(hE2.below hW hE2.lt).cell]; rfl, trivial⟩
        have HK0 : Hid (M.okAt p.high p.es 0 = M.cov p.high x) := by show _ = _; rw [HK.out]; simp
        cases hc : M.cov p.high x with
        | true =>
          rw [hc] at hcov
          have HKK : Hid (M.okAt p.high p.es 0 = true) := by show _ = _; rw [HK0.out, hc]
          refine wp_last fun KL hKL => ?_
          have HL := hid hKL
          clear hKL
          have HCOV := hid hcov
          have HCSH := hid HCS
          clear hcov HCS
          refine region_until (S := fun W : World => W.cell? ⟨w.heap.size, 0, none⟩ = some (.int .i64 p.lsn) ∧ W.cell? ⟨w.heap.size, 1, none⟩ = some (.int .i64 p.kind) ∧ W.cell? ⟨w.heap.size, 2, none⟩ = some (.int .i64 p.level) ∧ W.cell? ⟨w.heap.size, 3, none⟩ = some (.int .i64 p.right) ∧ W.cell? ⟨w.heap.size, 4, none⟩ = some (.string (M.bs p.high)) ∧ W.cell? ⟨w.heap.size, 5, none⟩ = some (.slice (some ⟨b, off, none⟩) p.es.length cap) ∧ W.cell? ⟨g, 0, none⟩ = some (.string (M.bs x)) ∧ True) (m := 20) (by kernel_rfl) ?_
          have hS := HCSH.out _ (Bel.dr (Below.refl _ _))
          have hb3 : Bel w2 w2.drew := Bel.dr (Below.refl _ _)
          generalize w2.drew = w3 at *
          refine take_next (i := 0) (.int .i64 0) [1, 2, 13, 14, 20] (by kernel_rfl) (by kernel_rfl) rfl (by kernel_rfl) (by kernel_rfl) (by kernel_rfl) (by kernel_rfl) (fun _ _ _ h => absurd h.1 (by simp)) (Or.inl ⟨by kernel_rfl, fun w' hSw => by kernel_rfl⟩) hS ?_
          try simp only [Act.put]
          refine take_next (i := 1) (.bool false) [2, 13, 14, 20] (by kernel_rfl) (by kernel_rfl) rfl (by kernel_rfl) (by kernel_rfl) (by kernel_rfl) (by kernel_rfl) (fun _ _ _ h => absurd h.1 (by simp)) (Or.inl ⟨by kernel_rfl, fun w' hSw => by obtain ⟨s0, s1, s2, s3, s4, s5, s6, s7⟩ := hSw; go_simp⟩) hS ?_
          try simp only [Act.put]
          refine take_next (i := 2) (.bool false) [13, 14, 20] (by kernel_rfl) (by kernel_rfl) rfl (by kernel_rfl) (by kernel_rfl) (by kernel_rfl) (by kernel_rfl) (fun _ _ _ h => absurd h.1 (by simp)) (Or.inl ⟨by kernel_rfl, fun w' hSw => by kernel_rfl⟩) hS ?_
          try simp only [Act.put]
          refine take_next (i := 3) undef [4, 12, 13, 14, 20] (by kernel_rfl) (by kernel_rfl) rfl (by kernel_rfl) (by kernel_rfl) (by kernel_rfl) (by kernel_rfl) (fun _ _ _ h => absurd h.1 (by simp)) (Or.inr ⟨by kernel_rfl, rfl⟩) hS ?_
          try simp only [Act.put]
          refine take_next (i := 4) undef [12, 13, 14, 20] (by kernel_rfl) (by kernel_rfl) rfl (by kernel_rfl) (by kernel_rfl) (by kernel_rfl) (by kernel_rfl) (fun _ _ _ h => absurd h.1 (by simp)) (Or.inr ⟨by kernel_rfl, rfl⟩) hS ?_
          try simp only [Act.put]
          refine take_next (i := 5) undef [6, 9, 10, 11, 12, 13, 14, 20] (by kernel_rfl) (by kernel_rfl) rfl (by kernel_rfl) (by kernel_rfl) (by kernel_rfl) (by kernel_rfl) (fun _ _ _ h => absurd h.1 (by simp)) (Or.inr ⟨by kernel_rfl, rfl⟩) hS ?_
          try simp only [Act.put]
          refine take_next (i := 6) undef [9, 10, 11, 12, 13, 14, 20] (by kernel_rfl) (by kernel_rfl) rfl (by kernel_rfl) (by kernel_rfl) (by kernel_rfl) (by kernel_rfl) (fun _ _ _ h => absurd h.1 (by simp)) (Or.inr ⟨by kernel_rfl, rfl⟩) hS ?_
          try simp only [Act.put]
          refine take_next (i := 7) undef [8, 9, 10, 11, 12, 13, 14, 20] (by kernel_rfl) (by kernel_rfl) rfl (by kernel_rfl) (by kernel_rfl) (by kernel_rfl) (by kernel_rfl) (fun _ _ _ h => absurd h.1 (by simp)) (Or.inr ⟨by kernel_rfl, rfl⟩) hS ?_
          try simp only [Act.put]
          refine take_next (i := 8) undef [9, 10, 11, 12, 13, 14, 20] (by kernel_rfl) (by kernel_rfl) rfl (by kernel_rfl) (by kernel_rfl) (by kernel_rfl) (by kernel_rfl) (fun _ _ _ h => absurd h.1 (by simp)) (Or.inr ⟨by kernel_rfl, rfl⟩) hS ?_
          try simp only [Act.put]
          refine take_next (i := 9) undef [10, 11, 12, 13, 14, 20] (by kernel_rfl) (by kernel_rfl) rfl (by kernel_rfl) (by kernel_rfl) (by kernel_rfl) (by kernel_rfl) (fun _ _ _ h => absurd h.1 (by simp)) (Or.inr ⟨by kernel_rfl, rfl⟩) hS ?_
          try simp only [Act.put]
          refine take_next (i := 10) undef [11, 12, 13, 14, 20] (by kernel_rfl) (by kernel_rfl) rfl (by kernel_rfl) (by kernel_rfl) (by kernel_rfl) (by kernel_rfl) (fun _ _ _ h => absurd h.1 (by simp)) (Or.inr ⟨by kernel_rfl, rfl⟩) hS ?_
          try simp only [Act.put]
          refine take_next (i := 11) undef [12, 13, 14, 20] (by kernel_rfl) (by kernel_rfl) rfl (by kernel_rfl) (by kernel_rfl) (by kernel_rfl) (by kernel_rfl) (fun _ _ _ h => absurd h.1 (by simp)) (Or.inr ⟨by kernel_rfl, rfl⟩) hS ?_
          try simp only [Act.put]
          refine take_next (i := 12) undef [13, 14, 20] (by kernel_rfl) (by kernel_rfl) rfl (by kernel_rfl) (by kernel_rfl) (by kernel_rfl) (by kernel_rfl) (fun _ _ _ h => absurd h.1 (by simp)) (Or.inr ⟨by kernel_rfl, rfl⟩) hS ?_
          try simp only [Act.put]
          refine take_next (i := 13) (.bool false) [14, 20] (by kernel_rfl) (by kernel_rfl) rfl (by kernel_rfl) (by kernel_rfl) (by kernel_rfl) (by kernel_rfl) (fun _ _ _ h => absurd h.1 (by simp)) (Or.inl ⟨by kernel_rfl, fun w' hSw => by kernel_rfl⟩) hS ?_
          try simp only [Act.put]
          refine take_next (i := 14) (.bool false) [20] (by kernel_rfl) (by kernel_rfl) rfl (by kernel_rfl) (by kernel_rfl) (by kernel_rfl) (by kernel_rfl) (fun _ _ _ h => absurd h.1 (by simp)) (Or.inl ⟨by kernel_rfl, fun w' hSw => by kernel_rfl⟩) hS ?_
          try simp only [Act.put]
          refine take_next (i := 15) (.agg #[.int .i64 p.lsn, .int .i64 p.kind, .int .i64 p.level, .int .i64 p.right, .string (M.bs p.high), .slice (some ⟨b, off, none⟩) p.es.length cap]) [18, 19, 20] (by kernel_rfl) (by kernel_rfl) rfl (by kernel_rfl) (by kernel_rfl) (by kernel_rfl) (by kernel_rfl) (fun _ _ _ h => absurd h.1 (by simp)) (Or.inl ⟨by kernel_rfl, fun w' hSw => by obtain ⟨s0, s1, s2, s3, s4, s5, s6, s7⟩ := hSw; go_simp⟩) hS ?_
          try simp only [Act.put]
          refine take_next (i := 16) (.pointer (some ⟨g, 0, none⟩)) [17, 18, 19, 20] (by kernel_rfl) (by kernel_rfl) rfl (by kernel_rfl) (by kernel_rfl) (by kernel_rfl) (by kernel_rfl) (fun _ _ _ h => absurd h.1 (by simp)) (Or.inl ⟨by kernel_rfl, fun w' hSw => by kernel_rfl⟩) hS ?_
          try simp only [Act.put]
          refine take_next (i := 17) (.string (M.bs x)) [18, 19, 20] (by kernel_rfl) (by kernel_rfl) rfl (by kernel_rfl) (by kernel_rfl) (by kernel_rfl) (by kernel_rfl) (fun _ _ _ h => absurd h.1 (by simp)) (Or.inl ⟨by kernel_rfl, fun w' hSw => by obtain ⟨s0, s1, s2, s3, s4, s5, s6, s7⟩ := hSw; go_simp⟩) hS ?_
          try simp only [Act.put]
          refine until_step (j := 18) (by kernel_rfl) rfl (by kernel_rfl) (fun KX hKX => ?_)
          have HX := hid hKX
          clear hKX
          go_simp
          refine (HCOV.out _).mono ?_
          rintro e w4 ⟨rfl, b4⟩
          have hb4 := hb3.tr b4
          have hS4 := HCSH.out _ hb4
          refine HX.out _ _ ⟨fun _ => hS4, ?_⟩
          clear HX b4
          try simp only [Act.put]
          refine take_next (i := 19) (.bool false) [20] (by kernel_rfl) (by kernel_rfl) rfl (by kernel_rfl) (by kernel_rfl) (by kernel_rfl) (by kernel_rfl) (fun _ _ _ h => absurd h.1 (by simp)) (Or.inl ⟨by kernel_rfl, fun w' hSw => by kernel_rfl⟩) hS4 ?_
          try simp only [Act.put]
          refine until_step (j := 20) (by kernel_rfl) rfl (by kernel_rfl) (fun KX hKX => ?_)
          have HX := hid hKX
          clear hKX
          go_simp
          refine HX.out _ _ ⟨fun _ => hS4, ?_⟩
          clear HX
          refine until_done (by kernel_rfl) ⟨rfl, ?_⟩ _
          refine HL.out _ _ ?_
          clear HL
          go_wp2_with fail
          go_roundw
          case rel => exact ⟨0 + 1, by omega, by go_num, fun q hq => by
            by_cases hqi : q = 0
            · rw [hqi]; exact HKK.out
            · exact HOK.out q (by omega), hb2.tr hb4⟩
          case measure => simp [intOf]; omega
        | false =>
          rw [hc] at hcov
          have HKK : Hid (M.okAt p.high p.es 0 = false) := by show _ = _; rw [HK0.out, hc]
          refine wp_last fun KL hKL => ?_
          have HL := hid hKL
          clear hKL
          have HCOV := hid hcov
          have HCSH := hid HCS
          clear hcov HCS
          refine region_until (S := fun W : World => W.cell? ⟨w.heap.size, 0, none⟩ = some (.int .i64 p.lsn) ∧ W.cell? ⟨w.heap.size, 1, none⟩ = some (.int .i64 p.kind) ∧ W.cell? ⟨w.heap.size, 2, none⟩ = some (.int .i64 p.level) ∧ W.cell? ⟨w.heap.size, 3, none⟩ = some (.int .i64 p.right) ∧ W.cell? ⟨w.heap.size, 4, none⟩ = some (.string (M.bs p.high)) ∧ W.cell? ⟨w.heap.size, 5, none⟩ = some (.slice (some ⟨b, off, none⟩) p.es.length cap) ∧ W.cell? ⟨g, 0, none⟩ = some (.string (M.bs x)) ∧ True) (m := 20) (by kernel_rfl) ?_
          have hS := HCSH.out _ (Bel.dr (Below.refl _ _))
          have hb3 : Bel w2 w2.drew := Bel.dr (Below.refl _ _)
          generalize w2.drew = w3 at *
          refine take_next (i := 0) (.int .i64 0) [1, 2, 13, 14, 20] (by kernel_rfl) (by kernel_rfl) rfl (by kernel_rfl) (by kernel_rfl) (by kernel_rfl) (by kernel_rfl) (fun _ _ _ h => absurd h.1 (by simp)) (Or.inl ⟨by kernel_rfl, fun w' hSw => by kernel_rfl⟩) hS ?_
          try simp only [Act.put]
          refine take_next (i := 1) (.bool false) [2, 13, 14, 20] (by kernel_rfl) (by kernel_rfl) rfl (by kernel_rfl) (by kernel_rfl) (by kernel_rfl) (by kernel_rfl) (fun _ _ _ h => absurd h.1 (by simp)) (Or.inl ⟨by kernel_rfl, fun w' hSw => by obtain ⟨s0, s1, s2, s3, s4, s5, s6, s7⟩ := hSw; go_simp⟩) hS ?_
          try simp only [Act.put]
          refine take_next (i := 2) (.bool false) [13, 14, 20] (by kernel_rfl) (by kernel_rfl) rfl (by kernel_rfl) (by kernel_rfl) (by kernel_rfl) (by kernel_rfl) (fun _ _ _ h => absurd h.1 (by simp)) (Or.inl ⟨by kernel_rfl, fun w' hSw => by kernel_rfl⟩) hS ?_
          try simp only [Act.put]
          refine take_next (i := 3) undef [4, 12, 13, 14, 20] (by kernel_rfl) (by kernel_rfl) rfl (by kernel_rfl) (by kernel_rfl) (by kernel_rfl) (by kernel_rfl) (fun _ _ _ h => absurd h.1 (by simp)) (Or.inr ⟨by kernel_rfl, rfl⟩) hS ?_
          try simp only [Act.put]
          refine take_next (i := 4) undef [12, 13, 14, 20] (by kernel_rfl) (by kernel_rfl) rfl (by kernel_rfl) (by kernel_rfl) (by kernel_rfl) (by kernel_rfl) (fun _ _ _ h => absurd h.1 (by simp)) (Or.inr ⟨by kernel_rfl, rfl⟩) hS ?_
          try simp only [Act.put]
          refine take_next (i := 5) undef [6, 9, 10, 11, 12, 13, 14, 20] (by kernel_rfl) (by kernel_rfl) rfl (by kernel_rfl) (by kernel_rfl) (by kernel_rfl) (by kernel_rfl) (fun _ _ _ h => absurd h.1 (by simp)) (Or.inr ⟨by kernel_rfl, rfl⟩) hS ?_
          try simp only [Act.put]
          refine take_next (i := 6) undef [9, 10, 11, 12, 13, 14, 20] (by kernel_rfl) (by kernel_rfl) rfl (by kernel_rfl) (by kernel_rfl) (by kernel_rfl) (by kernel_rfl) (fun _ _ _ h => absurd h.1 (by simp)) (Or.inr ⟨by kernel_rfl, rfl⟩) hS ?_
          try simp only [Act.put]
          refine take_next (i := 7) undef [8, 9, 10, 11, 12, 13, 14, 20] (by kernel_rfl) (by kernel_rfl) rfl (by kernel_rfl) (by kernel_rfl) (by kernel_rfl) (by kernel_rfl) (fun _ _ _ h => absurd h.1 (by simp)) (Or.inr ⟨by kernel_rfl, rfl⟩) hS ?_
          try simp only [Act.put]
          refine take_next (i := 8) undef [9, 10, 11, 12, 13, 14, 20] (by kernel_rfl) (by kernel_rfl) rfl (by kernel_rfl) (by kernel_rfl) (by kernel_rfl) (by kernel_rfl) (fun _ _ _ h => absurd h.1 (by simp)) (Or.inr ⟨by kernel_rfl, rfl⟩) hS ?_
          try simp only [Act.put]
          refine take_next (i := 9) undef [10, 11, 12, 13, 14, 20] (by kernel_rfl) (by kernel_rfl) rfl (by kernel_rfl) (by kernel_rfl) (by kernel_rfl) (by kernel_rfl) (fun _ _ _ h => absurd h.1 (by simp)) (Or.inr ⟨by kernel_rfl, rfl⟩) hS ?_
          try simp only [Act.put]
          refine take_next (i := 10) undef [11, 12, 13, 14, 20] (by kernel_rfl) (by kernel_rfl) rfl (by kernel_rfl) (by kernel_rfl) (by kernel_rfl) (by kernel_rfl) (fun _ _ _ h => absurd h.1 (by simp)) (Or.inr ⟨by kernel_rfl, rfl⟩) hS ?_
          try simp only [Act.put]
          refine take_next (i := 11) undef [12, 13, 14, 20] (by kernel_rfl) (by kernel_rfl) rfl (by kernel_rfl) (by kernel_rfl) (by kernel_rfl) (by kernel_rfl) (fun _ _ _ h => absurd h.1 (by simp)) (Or.inr ⟨by kernel_rfl, rfl⟩) hS ?_
          try simp only [Act.put]
          refine take_next (i := 12) undef [13, 14, 20] (by kernel_rfl) (by kernel_rfl) rfl (by kernel_rfl) (by kernel_rfl) (by kernel_rfl) (by kernel_rfl) (fun _ _ _ h => absurd h.1 (by simp)) (Or.inr ⟨by kernel_rfl, rfl⟩) hS ?_
          try simp only [Act.put]
          refine take_next (i := 13) (.bool false) [14, 20] (by kernel_rfl) (by kernel_rfl) rfl (by kernel_rfl) (by kernel_rfl) (by kernel_rfl) (by kernel_rfl) (fun _ _ _ h => absurd h.1 (by simp)) (Or.inl ⟨by kernel_rfl, fun w' hSw => by kernel_rfl⟩) hS ?_
          try simp only [Act.put]
          refine take_next (i := 14) (.bool false) [20] (by kernel_rfl) (by kernel_rfl) rfl (by kernel_rfl) (by kernel_rfl) (by kernel_rfl) (by kernel_rfl) (fun _ _ _ h => absurd h.1 (by simp)) (Or.inl ⟨by kernel_rfl, fun w' hSw => by kernel_rfl⟩) hS ?_
          try simp only [Act.put]
          refine take_next (i := 15) (.agg #[.int .i64 p.lsn, .int .i64 p.kind, .int .i64 p.level, .int .i64 p.right, .string (M.bs p.high), .slice (some ⟨b, off, none⟩) p.es.length cap]) [18, 19, 20] (by kernel_rfl) (by kernel_rfl) rfl (by kernel_rfl) (by kernel_rfl) (by kernel_rfl) (by kernel_rfl) (fun _ _ _ h => absurd h.1 (by simp)) (Or.inl ⟨by kernel_rfl, fun w' hSw => by obtain ⟨s0, s1, s2, s3, s4, s5, s6, s7⟩ := hSw; go_simp⟩) hS ?_
          try simp only [Act.put]
          refine take_next (i := 16) (.pointer (some ⟨g, 0, none⟩)) [17, 18, 19, 20] (by kernel_rfl) (by kernel_rfl) rfl (by kernel_rfl) (by kernel_rfl) (by kernel_rfl) (by kernel_rfl) (fun _ _ _ h => absurd h.1 (by simp)) (Or.inl ⟨by kernel_rfl, fun w' hSw => by kernel_rfl⟩) hS ?_
          try simp only [Act.put]
          refine take_next (i := 17) (.string (M.bs x)) [18, 19, 20] (by kernel_rfl) (by kernel_rfl) rfl (by kernel_rfl) (by kernel_rfl) (by kernel_rfl) (by kernel_rfl) (fun _ _ _ h => absurd h.1 (by simp)) (Or.inl ⟨by kernel_rfl, fun w' hSw => by obtain ⟨s0, s1, s2, s3, s4, s5, s6, s7⟩ := hSw; go_simp⟩) hS ?_
          try simp only [Act.put]
          refine until_step (j := 18) (by kernel_rfl) rfl (by kernel_rfl) (fun KX hKX => ?_)
          have HX := hid hKX
          clear hKX
          go_simp
          refine (HCOV.out _).mono ?_
          rintro e w4 ⟨rfl, b4⟩
          have hb4 := hb3.tr b4
          have hS4 := HCSH.out _ hb4
          refine HX.out _ _ ⟨fun _ => hS4, ?_⟩
          clear HX b4
          try simp only [Act.put]
          refine take_next (i := 19) (.bool true) [20] (by kernel_rfl) (by kernel_rfl) rfl (by kernel_rfl) (by kernel_rfl) (by kernel_rfl) (by kernel_rfl) (fun _ _ _ h => absurd h.1 (by simp)) (Or.inl ⟨by kernel_rfl, fun w' hSw => by kernel_rfl⟩) hS4 ?_
          try simp only [Act.put]
          refine until_step (j := 20) (by kernel_rfl) rfl (by kernel_rfl) (fun KX hKX => ?_)
          have HX := hid hKX
          clear hKX
          go_simp
          refine HX.out _ _ ⟨fun _ => hS4, ?_⟩
          clear HX
          refine until_done (by kernel_rfl) ⟨rfl, ?_⟩ _
          refine HL.out _ _ ?_
          clear HL
          go_wp2_with fail
          go_ret
          exact ⟨by rw [M.rises_no hlt HKK.out]; rfl, hW1.tr (hW2.tr hb4)⟩
      · obtain ⟨j, hj⟩ : ∃ j, i = j + 1 := ⟨i - 1, by omega⟩
        have hjl : j < p.es.length := by omega
        have hpos : 0 < i := by omega
        have q2 : (i : Int) - 1 = (j : Int) := by omega
        have q3 : (j : Int) < (p.es.length : Int) := by omega
        have q5 : IntKind.i64.wrap (j : Int) = (j : Int) := by rw [IntKind.wrap_i64]; omega
        have HJ : Hid (p.es[i - 1]?.getD ([], [], false) = p.es[j]) := by show _ = _; rw [hj]; simp [hjl]
        have HROW : Hid (∀ W : World, Row3 W b off p.es → W.cell? ⟨b, off + j * 3, none⟩ = some (.string (M.bs p.es[j].1))) := fun W h => (h j hjl).1
        rw [HJ.out] at HK
        generalize p.es[j].1 = y at *
        have z2 : (M.bs y).toList = y := M.bs_toList _
        have HCS : ∀ W, Bel w2 W → (fun W : World => W.cell? ⟨w.heap.size, 0, none⟩ = some (.int .i64 p.lsn) ∧ W.cell? ⟨w.heap.size, 1, none⟩ = some (.int .i64 p.kind) ∧ W.cell? ⟨w.heap.size, 2, none⟩ = some (.int .i64 p.level) ∧ W.cell? ⟨w.heap.size, 3, none⟩ = some (.int .i64 p.right) ∧ W.cell? ⟨w.heap.size, 4, none⟩ = some (.string (M.bs p.high)) ∧ W.cell? ⟨w.heap.size, 5, none⟩ = some (.slice (some ⟨b, off, none⟩) p.es.length cap) ∧ W.cell? ⟨g, 0, none⟩ = some (.string (M.bs x)) ∧ W.cell? ⟨b, off + j * 3, none⟩ = some (.string (M.bs y))) W := fun W hW => by
          obtain ⟨hB, hRW, _⟩ := HC0.out W (hb2.tr hW)
          exact ⟨by rw [hB.cell]; rfl, by rw [hB.cell]; rfl, by rw [hB.cell]; rfl, by rw [hB.cell]; rfl, by rw [hB.cell]; rfl, by rw [hB.cell]; rfl, by rw [(hE2.below hW hE2.lt).cell]; rfl, HROW.out W hRW⟩
        have HK0 : Hid (M.okAt p.high p.es i = (M.ltS y x && M.cov p.high x)) := by show _ = _; rw [HK.out]; simp [h0]
        clear h0 hj
        cases hlt' : M.ltS y x with
        | false =>
          have HKK : Hid (M.okAt p.high p.es i = false) := by show _ = _; rw [HK0.out, hlt']; rfl
          have q4 : Op.bytesLess x y = true ∨ x = y := by
            by_cases e : x = y
            · exact .inr e
            · exact .inl (M.ltS_total y x hlt' (fun h => e h.symm))
          refine wp_last fun KL hKL => ?_
          have HL := hid hKL
          clear hKL
          have HCOV := hid hcov
          have HCSH := hid HCS
          clear hcov HCS
          refine region_until (S := fun W : World => W.cell? ⟨w.heap.size, 0, none⟩ = some (.int .i64 p.lsn) ∧ W.cell? ⟨w.heap.size, 1, none⟩ = some (.int .i64 p.kind) ∧ W.cell? ⟨w.heap.size, 2, none⟩ = some (.int .i64 p.level) ∧ W.cell? ⟨w.heap.size, 3, none⟩ = some (.int .i64 p.right) ∧ W.cell? ⟨w.heap.size, 4, none⟩ = some (.string (M.bs p.high)) ∧ W.cell? ⟨w.heap.size, 5, none⟩ = some (.slice (some ⟨b, off, none⟩) p.es.length cap) ∧ W.cell? ⟨g, 0, none⟩ = some (.string (M.bs x)) ∧ W.cell? ⟨b, off + j * 3, none⟩ = some (.string (M.bs y))) (m := 20) (by kernel_rfl) ?_
          have hS := HCSH.out _ (Bel.dr (Below.refl _ _))
          have hb3 : Bel w2 w2.drew := Bel.dr (Below.refl _ _)
          generalize w2.drew = w3 at *
          refine take_next (i := 0) (.int .i64 (i : Nat)) [1, 2, 13, 14, 20] (by kernel_rfl) (by kernel_rfl) rfl (by kernel_rfl) (by kernel_rfl) (by kernel_rfl) (by kernel_rfl) (fun _ _ _ h => absurd h.1 (by simp)) (Or.inl ⟨by kernel_rfl, fun w' hSw => by kernel_rfl⟩) hS ?_
          try simp only [Act.put]
          refine take_next (i := 1) (.bool true) [2, 13, 14, 20] (by kernel_rfl) (by kernel_rfl) rfl (by kernel_rfl) (by kernel_rfl) (by kernel_rfl) (by kernel_rfl) (fun _ _ _ h => absurd h.1 (by simp)) (Or.inl ⟨by kernel_rfl, fun w' hSw => by obtain ⟨s0, s1, s2, s3, s4, s5, s6, s7⟩ := hSw; go_simp⟩) hS ?_
          try simp only [Act.put]
          refine take_next (i := 2) (.bool true) [13, 14, 20] (by kernel_rfl) (by kernel_rfl) rfl (by kernel_rfl) (by kernel_rfl) (by kernel_rfl) (by kernel_rfl) (fun _ _ _ h => absurd h.1 (by simp)) (Or.inl ⟨by kernel_rfl, fun w' hSw => by kernel_rfl⟩) hS ?_
          try simp only [Act.put]
          refine take_next (i := 3) (.pointer (some ⟨g, 0, none⟩)) [4, 12, 13, 14, 20] (by kernel_rfl) (by kernel_rfl) rfl (by kernel_rfl) (by kernel_rfl) (by kernel_rfl) (by kernel_rfl) (fun _ _ _ h => absurd h.1 (by simp)) (Or.inl ⟨by kernel_rfl, fun w' hSw => by kernel_rfl⟩) hS ?_
          try simp only [Act.put]
          refine take_next (i := 4) (.string (M.bs x)) [12, 13, 14, 20] (by kernel_rfl) (by kernel_rfl) rfl (by kernel_rfl) (by kernel_rfl) (by kernel_rfl) (by kernel_rfl) (fun _ _ _ h => absurd h.1 (by simp)) (Or.inl ⟨by kernel_rfl, fun w' hSw => by obtain ⟨s0, s1, s2, s3, s4, s5, s6, s7⟩ := hSw; go_simp⟩) hS ?_
          try simp only [Act.put]
          refine take_next (i := 5) (.pointer (some ⟨w.heap.size, 5, none⟩)) [6, 9, 10, 11, 12, 13, 14, 20] (by kernel_rfl) (by kernel_rfl) rfl (by kernel_rfl) (by kernel_rfl) (by kernel_rfl) (by kernel_rfl) (fun _ _ _ h => absurd h.1 (by simp)) (Or.inl ⟨by kernel_rfl, fun w' hSw => by kernel_rfl⟩) hS ?_
          try simp only [Act.put]
          refine take_next (i := 6) (.slice (some ⟨b, off, none⟩) p.es.length cap) [9, 10, 11, 12, 13, 14, 20] (by kernel_rfl) (by kernel_rfl) rfl (by kernel_rfl) (by kernel_rfl) (by kernel_rfl) (by kernel_rfl) (fun _ _ _ h => absurd h.1 (by simp)) (Or.inl ⟨by kernel_rfl, fun w' hSw => by obtain ⟨s0, s1, s2, s3, s4, s5, s6, s7⟩ := hSw; go_simp⟩) hS ?_
          try simp only [Act.put]
          refine take_next (i := 7) (.int .i64 (i : Nat)) [8, 9, 10, 11, 12, 13, 14, 20] (by kernel_rfl) (by kernel_rfl) rfl (by kernel_rfl) (by kernel_rfl) (by kernel_rfl) (by kernel_rfl) (fun _ _ _ h => absurd h.1 (by simp)) (Or.inl ⟨by kernel_rfl, fun w' hSw => by kernel_rfl⟩) hS ?_
          try simp only [Act.put]
          refine take_next (i := 8) (.int .i64 (j : Nat)) [9, 10, 11, 12, 13, 14, 20] (by kernel_rfl) (by kernel_rfl) rfl (by kernel_rfl) (by kernel_rfl) (by kernel_rfl) (by kernel_rfl) (fun _ _ _ h => absurd h.1 (by simp)) (Or.inl ⟨by kernel_rfl, fun w' hSw => by obtain ⟨s0, s1, s2, s3, s4, s5, s6, s7⟩ := hSw; go_simp⟩) hS ?_
          try simp only [Act.put]
          refine take_next (i := 9) (.pointer (some ⟨b, off + j * 3, none⟩)) [10, 11, 12, 13, 14, 20] (by kernel_rfl) (by kernel_rfl) rfl (by kernel_rfl) (by kernel_rfl) (by kernel_rfl) (by kernel_rfl) (fun _ _ _ h => absurd h.1 (by simp)) (Or.inl ⟨by kernel_rfl, fun w' hSw => by obtain ⟨s0, s1, s2, s3, s4, s5, s6, s7⟩ := hSw; go_simp⟩) hS ?_
          try simp only [Act.put]
          refine take_next (i := 10) (.pointer (some ⟨b, off + j * 3, none⟩)) [11, 12, 13, 14, 20] (by kernel_rfl) (by kernel_rfl) rfl (by kernel_rfl) (by kernel_rfl) (by kernel_rfl) (by kernel_rfl) (fun _ _ _ h => absurd h.1 (by simp)) (Or.inl ⟨by kernel_rfl, fun w' hSw => by kernel_rfl⟩) hS ?_
          try simp only [Act.put]
          refine take_next (i := 11) (.string (M.bs y)) [12, 13, 14, 20] (by kernel_rfl) (by kernel_rfl) rfl (by kernel_rfl) (by kernel_rfl) (by kernel_rfl) (by kernel_rfl) (fun _ _ _ h => absurd h.1 (by simp)) (Or.inl ⟨by kernel_rfl, fun w' hSw => by obtain ⟨s0, s1, s2, s3, s4, s5, s6, s7⟩ := hSw; go_simp⟩) hS ?_
          try simp only [Act.put]
          refine take_next (i := 12) (.bool true) [13, 14, 20] (by kernel_rfl) (by kernel_rfl) rfl (by kernel_rfl) (by kernel_rfl) (by kernel_rfl) (by kernel_rfl) (fun _ _ _ h => absurd h.1 (by simp)) (Or.inl ⟨by kernel_rfl, fun w' hSw => by obtain ⟨s0, s1, s2, s3, s4, s5, s6, s7⟩ := hSw; go_simp⟩) hS ?_
          try simp only [Act.put]
          refine take_next (i := 13) (.bool true) [14, 20] (by kernel_rfl) (by kernel_rfl) rfl (by kernel_rfl) (by kernel_rfl) (by kernel_rfl) (by kernel_rfl) (fun _ _ _ h => absurd h.1 (by simp)) (Or.inl ⟨by kernel_rfl, fun w' hSw => by kernel_rfl⟩) hS ?_
          try simp only [Act.put]
          refine take_next (i := 14) (.bool true) [20] (by kernel_rfl) (by kernel_rfl) rfl (by kernel_rfl) (by kernel_rfl) (by kernel_rfl) (by kernel_rfl) (fun _ _ _ h => absurd h.1 (by simp)) (Or.inl ⟨by kernel_rfl, fun w' hSw => by kernel_rfl⟩) hS ?_
          try simp only [Act.put]
          refine take_next (i := 15) undef [18, 19, 20] (by kernel_rfl) (by kernel_rfl) rfl (by kernel_rfl) (by kernel_rfl) (by kernel_rfl) (by kernel_rfl) (fun _ _ _ h => absurd h.1 (by simp)) (Or.inr ⟨by kernel_rfl, rfl⟩) hS ?_
          try simp only [Act.put]
          refine take_next (i := 16) undef [17, 18, 19, 20] (by kernel_rfl) (by kernel_rfl) rfl (by kernel_rfl) (by kernel_rfl) (by kernel_rfl) (by kernel_rfl) (fun _ _ _ h => absurd h.1 (by simp)) (Or.inr ⟨by kernel_rfl, rfl⟩) hS ?_
          try simp only [Act.put]
          refine take_next (i := 17) undef [18, 19, 20] (by kernel_rfl) (by kernel_rfl) rfl (by kernel_rfl) (by kernel_rfl) (by kernel_rfl) (by kernel_rfl) (fun _ _ _ h => absurd h.1 (by simp)) (Or.inr ⟨by kernel_rfl, rfl⟩) hS ?_
          try simp only [Act.put]
          refine take_next (i := 18) undef [19, 20] (by kernel_rfl) (by kernel_rfl) rfl (by kernel_rfl) (by kernel_rfl) (by kernel_rfl) (by kernel_rfl) (fun _ _ _ h => absurd h.1 (by simp)) (Or.inr ⟨by kernel_rfl, rfl⟩) hS ?_
          try simp only [Act.put]
          refine take_next (i := 19) undef [20] (by kernel_rfl) (by kernel_rfl) rfl (by kernel_rfl) (by kernel_rfl) (by kernel_rfl) (by kernel_rfl) (fun _ _ _ h => absurd h.1 (by simp)) (Or.inr ⟨by kernel_rfl, rfl⟩) hS ?_
          try simp only [Act.put]
          refine until_step (j := 20) (by kernel_rfl) rfl (by kernel_rfl) (fun KX hKX => ?_)
          have HX := hid hKX
          clear hKX
          go_simp
          refine HX.out _ _ ⟨fun _ => hS, ?_⟩
          clear HX
          have hb4 := hb3
          refine until_done (by kernel_rfl) ⟨rfl, ?_⟩ _
          refine HL.out _ _ ?_
          clear HL
          go_wp2_with fail
          go_ret
          exact ⟨by rw [M.rises_no hlt HKK.out]; rfl, hW1.tr (hW2.tr hb4)⟩
        | true =>
          have q4 : Op.bytesLess x y = false := by
            cases h : Op.bytesLess x y with
            | false => rfl
            | true => have := M.ltS_trans _ _ _ hlt' (show M.ltS x y = true from h); rw [M.ltS_irrefl] at this; cases this
          have q6 : ¬ x = y := fun e => by rw [e, M.ltS_irrefl] at hlt'; cases hlt'
          cases hc : M.cov p.high x with
          | true =>
            rw [hc] at hcov
            have HKK : Hid (M.okAt p.high p.es i = true) := by show _ = _; rw [HK0.out, hlt', hc]; rfl
            refine wp_last fun KL hKL => ?_
            have HL := hid hKL
            clear hKL
            have HCOV := hid hcov
            have HCSH := hid HCS
            clear hcov HCS
            refine region_until (S := fun W : World => W.cell? ⟨w.heap.size, 0, none⟩ = some (.int .i64 p.lsn) ∧ W.cell? ⟨w.heap.size, 1, none⟩ = some (.int .i64 p.kind) ∧ W.cell? ⟨w.heap.size, 2, none⟩ = some (.int .i64 p.level) ∧ W.cell? ⟨w.heap.size, 3, none⟩ = some (.int .i64 p.right) ∧ W.cell? ⟨w.heap.size, 4, none⟩ = some (.string (M.bs p.high)) ∧ W.cell? ⟨w.heap.size, 5, none⟩ = some (.slice (some ⟨b, off, none⟩) p.es.length cap) ∧ W.cell? ⟨g, 0, none⟩ = some (.string (M.bs x)) ∧ W.cell? ⟨b, off + j * 3, none⟩ = some (.string (M.bs y))) (m := 20) (by kernel_rfl) ?_
            have hS := HCSH.out _ (Bel.dr (Below.refl _ _))
            have hb3 : Bel w2 w2.drew := Bel.dr (Below.refl _ _)
            generalize w2.drew = w3 at *
            refine take_next (i := 0) (.int .i64 (i : Nat)) [1, 2, 13, 14, 20] (by kernel_rfl) (by kernel_rfl) rfl (by kernel_rfl) (by kernel_rfl) (by kernel_rfl) (by kernel_rfl) (fun _ _ _ h => absurd h.1 (by simp)) (Or.inl ⟨by kernel_rfl, fun w' hSw => by kernel_rfl⟩) hS ?_
            try simp only [Act.put]
            refine take_next (i := 1) (.bool true) [2, 13, 14, 20] (by kernel_rfl) (by kernel_rfl) rfl (by kernel_rfl) (by kernel_rfl) (by kernel_rfl) (by kernel_rfl) (fun _ _ _ h => absurd h.1 (by simp)) (Or.inl ⟨by kernel_rfl, fun w' hSw => by obtain ⟨s0, s1, s2, s3, s4, s5, s6, s7⟩ := hSw; go_simp⟩) hS ?_
            try simp only [Act.put]
            refine take_next (i := 2) (.bool true) [13, 14, 20] (by kernel_rfl) (by kernel_rfl) rfl (by kernel_rfl) (by kernel_rfl) (by kernel_rfl) (by kernel_rfl) (fun _ _ _ h => absurd h.1 (by simp)) (Or.inl ⟨by kernel_rfl, fun w' hSw => by kernel_rfl⟩) hS ?_
            try simp only [Act.put]
            refine take_next (i := 3) (.pointer (some ⟨g, 0, none⟩)) [4, 12, 13, 14, 20] (by kernel_rfl) (by kernel_rfl) rfl (by kernel_rfl) (by kernel_rfl) (by kernel_rfl) (by kernel_rfl) (fun _ _ _ h => absurd h.1 (by simp)) (Or.inl ⟨by kernel_rfl, fun w' hSw => by kernel_rfl⟩) hS ?_
            try simp only [Act.put]
            refine take_next (i := 4) (.string (M.bs x)) [12, 13, 14, 20] (by kernel_rfl) (by kernel_rfl) rfl (by kernel_rfl) (by kernel_rfl) (by kernel_rfl) (by kernel_rfl) (fun _ _ _ h => absurd h.1 (by simp)) (Or.inl ⟨by kernel_rfl, fun w' hSw => by obtain ⟨s0, s1, s2, s3, s4, s5, s6, s7⟩ := hSw; go_simp⟩) hS ?_
            try simp only [Act.put]
            refine take_next (i := 5) (.pointer (some ⟨w.heap.size, 5, none⟩)) [6, 9, 10, 11, 12, 13, 14, 20] (by kernel_rfl) (by kernel_rfl) rfl (by kernel_rfl) (by kernel_rfl) (by kernel_rfl) (by kernel_rfl) (fun _ _ _ h => absurd h.1 (by simp)) (Or.inl ⟨by kernel_rfl, fun w' hSw => by kernel_rfl⟩) hS ?_
            try simp only [Act.put]
            refine take_next (i := 6) (.slice (some ⟨b, off, none⟩) p.es.length cap) [9, 10, 11, 12, 13, 14, 20] (by kernel_rfl) (by kernel_rfl) rfl (by kernel_rfl) (by kernel_rfl) (by kernel_rfl) (by kernel_rfl) (fun _ _ _ h => absurd h.1 (by simp)) (Or.inl ⟨by kernel_rfl, fun w' hSw => by obtain ⟨s0, s1, s2, s3, s4, s5, s6, s7⟩ := hSw; go_simp⟩) hS ?_
            try simp only [Act.put]
            refine take_next (i := 7) (.int .i64 (i : Nat)) [8, 9, 10, 11, 12, 13, 14, 20] (by kernel_rfl) (by kernel_rfl) rfl (by kernel_rfl) (by kernel_rfl) (by kernel_rfl) (by kernel_rfl) (fun _ _ _ h => absurd h.1 (by simp)) (Or.inl ⟨by kernel_rfl, fun w' hSw => by kernel_rfl⟩) hS ?_
            try simp only [Act.put]
            refine take_next (i := 8) (.int .i64 (j : Nat)) [9, 10, 11, 12, 13, 14, 20] (by kernel_rfl) (by kernel_rfl) rfl (by kernel_rfl) (by kernel_rfl) (by kernel_rfl) (by kernel_rfl) (fun _ _ _ h => absurd h.1 (by simp)) (Or.inl ⟨by kernel_rfl, fun w' hSw => by obtain ⟨s0, s1, s2, s3, s4, s5, s6, s7⟩ := hSw; go_simp⟩) hS ?_
            try simp only [Act.put]
            refine take_next (i := 9) (.pointer (some ⟨b, off + j * 3, none⟩)) [10, 11, 12, 13, 14, 20] (by kernel_rfl) (by kernel_rfl) rfl (by kernel_rfl) (by kernel_rfl) (by kernel_rfl) (by kernel_rfl) (fun _ _ _ h => absurd h.1 (by simp)) (Or.inl ⟨by kernel_rfl, fun w' hSw => by obtain ⟨s0, s1, s2, s3, s4, s5, s6, s7⟩ := hSw; go_simp⟩) hS ?_
            try simp only [Act.put]
            refine take_next (i := 10) (.pointer (some ⟨b, off + j * 3, none⟩)) [11, 12, 13, 14, 20] (by kernel_rfl) (by kernel_rfl) rfl (by kernel_rfl) (by kernel_rfl) (by kernel_rfl) (by kernel_rfl) (fun _ _ _ h => absurd h.1 (by simp)) (Or.inl ⟨by kernel_rfl, fun w' hSw => by kernel_rfl⟩) hS ?_
            try simp only [Act.put]
            refine take_next (i := 11) (.string (M.bs y)) [12, 13, 14, 20] (by kernel_rfl) (by kernel_rfl) rfl (by kernel_rfl) (by kernel_rfl) (by kernel_rfl) (by kernel_rfl) (fun _ _ _ h => absurd h.1 (by simp)) (Or.inl ⟨by kernel_rfl, fun w' hSw => by obtain ⟨s0, s1, s2, s3, s4, s5, s6, s7⟩ := hSw; go_simp⟩) hS ?_
            try simp only [Act.put]
            refine take_next (i := 12) (.bool false) [13, 14, 20] (by kernel_rfl) (by kernel_rfl) rfl (by kernel_rfl) (by kernel_rfl) (by kernel_rfl) (by kernel_rfl) (fun _ _ _ h => absurd h.1 (by simp)) (Or.inl ⟨by kernel_rfl, fun w' hSw => by obtain ⟨s0, s1, s2, s3, s4, s5, s6, s7⟩ := hSw; go_simp⟩) hS ?_
            try simp only [Act.put]
            refine take_next (i := 13) (.bool false) [14, 20] (by kernel_rfl) (by kernel_rfl) rfl (by kernel_rfl) (by kernel_rfl) (by kernel_rfl) (by kernel_rfl) (fun _ _ _ h => absurd h.1 (by simp)) (Or.inl ⟨by kernel_rfl, fun w' hSw => by kernel_rfl⟩) hS ?_
            try simp only [Act.put]
            refine take_next (i := 14) (.bool false) [20] (by kernel_rfl) (by kernel_rfl) rfl (by kernel_rfl) (by kernel_rfl) (by kernel_rfl) (by kernel_rfl) (fun _ _ _ h => absurd h.1 (by simp)) (Or.inl ⟨by kernel_rfl, fun w' hSw => by kernel_rfl⟩) hS ?_
            try simp only [Act.put]
            refine take_next (i := 15) (.agg #[.int .i64 p.lsn, .int .i64 p.kind, .int .i64 p.level, .int .i64 p.right, .string (M.bs p.high), .slice (some ⟨b, off, none⟩) p.es.length cap]) [18, 19, 20] (by kernel_rfl) (by kernel_rfl) rfl (by kernel_rfl) (by kernel_rfl) (by kernel_rfl) (by kernel_rfl) (fun _ _ _ h => absurd h.1 (by simp)) (Or.inl ⟨by kernel_rfl, fun w' hSw => by obtain ⟨s0, s1, s2, s3, s4, s5, s6, s7⟩ := hSw; go_simp⟩) hS ?_
            try simp only [Act.put]
            refine take_next (i := 16) (.pointer (some ⟨g, 0, none⟩)) [17, 18, 19, 20] (by kernel_rfl) (by kernel_rfl) rfl (by kernel_rfl) (by kernel_rfl) (by kernel_rfl) (by kernel_rfl) (fun _ _ _ h => absurd h.1 (by simp)) (Or.inl ⟨by kernel_rfl, fun w' hSw => by kernel_rfl⟩) hS ?_
            try simp only [Act.put]
            refine take_next (i := 17) (.string (M.bs x)) [18, 19, 20] (by kernel_rfl) (by kernel_rfl) rfl (by kernel_rfl) (by kernel_rfl) (by kernel_rfl) (by kernel_rfl) (fun _ _ _ h => absurd h.1 (by simp)) (Or.inl ⟨by kernel_rfl, fun w' hSw => by obtain ⟨s0, s1, s2, s3, s4, s5, s6, s7⟩ := hSw; go_simp⟩) hS ?_
            try simp only [Act.put]
            refine until_step (j := 18) (by kernel_rfl) rfl (by kernel_rfl) (fun KX hKX => ?_)
            have HX := hid hKX
            clear hKX
            go_simp
            refine (HCOV.out _).mono ?_
            rintro e w4 ⟨rfl, b4⟩
            have hb4 := hb3.tr b4
            have hS4 := HCSH.out _ hb4
            refine HX.out _ _ ⟨fun _ => hS4, ?_⟩
            clear HX b4
            try simp only [Act.put]
            refine take_next (i := 19) (.bool false) [20] (by kernel_rfl) (by kernel_rfl) rfl (by kernel_rfl) (by kernel_rfl) (by kernel_rfl) (by kernel_rfl) (fun _ _ _ h => absurd h.1 (by simp)) (Or.inl ⟨by kernel_rfl, fun w' hSw => by kernel_rfl⟩) hS4 ?_
            try simp only [Act.put]
            refine until_step (j := 20) (by kernel_rfl) rfl (by kernel_rfl) (fun KX hKX => ?_)
            have HX := hid hKX
            clear hKX
            go_simp
            refine HX.out _ _ ⟨fun _ => hS4, ?_⟩
            clear HX
            refine until_done (by kernel_rfl) ⟨rfl, ?_⟩ _
            refine HL.out _ _ ?_
            clear HL
            go_wp2_with fail
            go_roundw
            case rel => exact ⟨i + 1, by omega, by go_num, fun q hq => by
              by_cases hqi : q = i
              · rw [hqi]; exact HKK.out
              · exact HOK.out q (by omega), hb2.tr hb4⟩
            case measure => simp [intOf]; omega
          | false =>
            rw [hc] at hcov
            have HKK : Hid (M.okAt p.high p.es i = false) := by show _ = _; rw [HK0.out, hlt', hc]; rfl
            refine wp_last fun KL hKL => ?_
            have HL := hid hKL
            clear hKL
            have HCOV := hid hcov
            have HCSH := hid HCS
            clear hcov HCS
            refine region_until (S := fun W : World => W.cell? ⟨w.heap.size, 0, none⟩ = some (.int .i64 p.lsn) ∧ W.cell? ⟨w.heap.size, 1, none⟩ = some (.int .i64 p.kind) ∧ W.cell? ⟨w.heap.size, 2, none⟩ = some (.int .i64 p.level) ∧ W.cell? ⟨w.heap.size, 3, none⟩ = some (.int .i64 p.right) ∧ W.cell? ⟨w.heap.size, 4, none⟩ = some (.string (M.bs p.high)) ∧ W.cell? ⟨w.heap.size, 5, none⟩ = some (.slice (some ⟨b, off, none⟩) p.es.length cap) ∧ W.cell? ⟨g, 0, none⟩ = some (.string (M.bs x)) ∧ W.cell? ⟨b, off + j * 3, none⟩ = some (.string (M.bs y))) (m := 20) (by kernel_rfl) ?_
            have hS := HCSH.out _ (Bel.dr (Below.refl _ _))
            have hb3 : Bel w2 w2.drew := Bel.dr (Below.refl _ _)
            generalize w2.drew = w3 at *
            refine take_next (i := 0) (.int .i64 (i : Nat)) [1, 2, 13, 14, 20] (by kernel_rfl) (by kernel_rfl) rfl (by kernel_rfl) (by kernel_rfl) (by kernel_rfl) (by kernel_rfl) (fun _ _ _ h => absurd h.1 (by simp)) (Or.inl ⟨by kernel_rfl, fun w' hSw => by kernel_rfl⟩) hS ?_
            try simp only [Act.put]
            refine take_next (i := 1) (.bool true) [2, 13, 14, 20] (by kernel_rfl) (by kernel_rfl) rfl (by kernel_rfl) (by kernel_rfl) (by kernel_rfl) (by kernel_rfl) (fun _ _ _ h => absurd h.1 (by simp)) (Or.inl ⟨by kernel_rfl, fun w' hSw => by obtain ⟨s0, s1, s2, s3, s4, s5, s6, s7⟩ := hSw; go_simp⟩) hS ?_
            try simp only [Act.put]
            refine take_next (i := 2) (.bool true) [13, 14, 20] (by kernel_rfl) (by kernel_rfl) rfl (by kernel_rfl) (by kernel_rfl) (by kernel_rfl) (by kernel_rfl) (fun _ _ _ h => absurd h.1 (by simp)) (Or.inl ⟨by kernel_rfl, fun w' hSw => by kernel_rfl⟩) hS ?_
            try simp only [Act.put]
            refine take_next (i := 3) (.pointer (some ⟨g, 0, none⟩)) [4, 12, 13, 14, 20] (by kernel_rfl) (by kernel_rfl) rfl (by kernel_rfl) (by kernel_rfl) (by kernel_rfl) (by kernel_rfl) (fun _ _ _ h => absurd h.1 (by simp)) (Or.inl ⟨by kernel_rfl, fun w' hSw => by kernel_rfl⟩) hS ?_
            try simp only [Act.put]
            refine take_next (i := 4) (.string (M.bs x)) [12, 13, 14, 20] (by kernel_rfl) (by kernel_rfl) rfl (by kernel_rfl) (by kernel_rfl) (by kernel_rfl) (by kernel_rfl) (fun _ _ _ h => absurd h.1 (by simp)) (Or.inl ⟨by kernel_rfl, fun w' hSw => by obtain ⟨s0, s1, s2, s3, s4, s5, s6, s7⟩ := hSw; go_simp⟩) hS ?_
            try simp only [Act.put]
            refine take_next (i := 5) (.pointer (some ⟨w.heap.size, 5, none⟩)) [6, 9, 10, 11, 12, 13, 14, 20] (by kernel_rfl) (by kernel_rfl) rfl (by kernel_rfl) (by kernel_rfl) (by kernel_rfl) (by kernel_rfl) (fun _ _ _ h => absurd h.1 (by simp)) (Or.inl ⟨by kernel_rfl, fun w' hSw => by kernel_rfl⟩) hS ?_
            try simp only [Act.put]
            refine take_next (i := 6) (.slice (some ⟨b, off, none⟩) p.es.length cap) [9, 10, 11, 12, 13, 14, 20] (by kernel_rfl) (by kernel_rfl) rfl (by kernel_rfl) (by kernel_rfl) (by kernel_rfl) (by kernel_rfl) (fun _ _ _ h => absurd h.1 (by simp)) (Or.inl ⟨by kernel_rfl, fun w' hSw => by obtain ⟨s0, s1, s2, s3, s4, s5, s6, s7⟩ := hSw; go_simp⟩) hS ?_
            try simp only [Act.put]
            refine take_next (i := 7) (.int .i64 (i : Nat)) [8, 9, 10, 11, 12, 13, 14, 20] (by kernel_rfl) (by kernel_rfl) rfl (by kernel_rfl) (by kernel_rfl) (by kernel_rfl) (by kernel_rfl) (fun _ _ _ h => absurd h.1 (by simp)) (Or.inl ⟨by kernel_rfl, fun w' hSw => by kernel_rfl⟩) hS ?_
            try simp only [Act.put]
            refine take_next (i := 8) (.int .i64 (j : Nat)) [9, 10, 11, 12, 13, 14, 20] (by kernel_rfl) (by kernel_rfl) rfl (by kernel_rfl) (by kernel_rfl) (by kernel_rfl) (by kernel_rfl) (fun _ _ _ h => absurd h.1 (by simp)) (Or.inl ⟨by kernel_rfl, fun w' hSw => by obtain ⟨s0, s1, s2, s3, s4, s5, s6, s7⟩ := hSw; go_simp⟩) hS ?_
            try simp only [Act.put]
            refine take_next (i := 9) (.pointer (some ⟨b, off + j * 3, none⟩)) [10, 11, 12, 13, 14, 20] (by kernel_rfl) (by kernel_rfl) rfl (by kernel_rfl) (by kernel_rfl) (by kernel_rfl) (by kernel_rfl) (fun _ _ _ h => absurd h.1 (by simp)) (Or.inl ⟨by kernel_rfl, fun w' hSw => by obtain ⟨s0, s1, s2, s3, s4, s5, s6, s7⟩ := hSw; go_simp⟩) hS ?_
            try simp only [Act.put]
            refine take_next (i := 10) (.pointer (some ⟨b, off + j * 3, none⟩)) [11, 12, 13, 14, 20] (by kernel_rfl) (by kernel_rfl) rfl (by kernel_rfl) (by kernel_rfl) (by kernel_rfl) (by kernel_rfl) (fun _ _ _ h => absurd h.1 (by simp)) (Or.inl ⟨by kernel_rfl, fun w' hSw => by kernel_rfl⟩) hS ?_
            try simp only [Act.put]
            refine take_next (i := 11) (.string (M.bs y)) [12, 13, 14, 20] (by kernel_rfl) (by kernel_rfl) rfl (by kernel_rfl) (by kernel_rfl) (by kernel_rfl) (by kernel_rfl) (fun _ _ _ h => absurd h.1 (by simp)) (Or.inl ⟨by kernel_rfl, fun w' hSw => by obtain ⟨s0, s1, s2, s3, s4, s5, s6, s7⟩ := hSw; go_simp⟩) hS ?_
            try simp only [Act.put]
            refine take_next (i := 12) (.bool false) [13, 14, 20] (by kernel_rfl) (by kernel_rfl) rfl (by kernel_rfl) (by kernel_rfl) (by kernel_rfl) (by kernel_rfl) (fun _ _ _ h => absurd h.1 (by simp)) (Or.inl ⟨by kernel_rfl, fun w' hSw => by obtain ⟨s0, s1, s2, s3, s4, s5, s6, s7⟩ := hSw; go_simp⟩) hS ?_
            try simp only [Act.put]
            refine take_next (i := 13) (.bool false) [14, 20] (by kernel_rfl) (by kernel_rfl) rfl (by kernel_rfl) (by kernel_rfl) (by kernel_rfl) (by kernel_rfl) (fun _ _ _ h => absurd h.1 (by simp)) (Or.inl ⟨by kernel_rfl, fun w' hSw => by kernel_rfl⟩) hS ?_
            try simp only [Act.put]
            refine take_next (i := 14) (.bool false) [20] (by kernel_rfl) (by kernel_rfl) rfl (by kernel_rfl) (by kernel_rfl) (by kernel_rfl) (by kernel_rfl) (fun _ _ _ h => absurd h.1 (by simp)) (Or.inl ⟨by kernel_rfl, fun w' hSw => by kernel_rfl⟩) hS ?_
            try simp only [Act.put]
            refine take_next (i := 15) (.agg #[.int .i64 p.lsn, .int .i64 p.kind, .int .i64 p.level, .int .i64 p.right, .string (M.bs p.high), .slice (some ⟨b, off, none⟩) p.es.length cap]) [18, 19, 20] (by kernel_rfl) (by kernel_rfl) rfl (by kernel_rfl) (by kernel_rfl) (by kernel_rfl) (by kernel_rfl) (fun _ _ _ h => absurd h.1 (by simp)) (Or.inl ⟨by kernel_rfl, fun w' hSw => by obtain ⟨s0, s1, s2, s3, s4, s5, s6, s7⟩ := hSw; go_simp⟩) hS ?_
            try simp only [Act.put]
            refine take_next (i := 16) (.pointer (some ⟨g, 0, none⟩)) [17, 18, 19, 20] (by kernel_rfl) (by kernel_rfl) rfl (by kernel_rfl) (by kernel_rfl) (by kernel_rfl) (by kernel_rfl) (fun _ _ _ h => absurd h.1 (by simp)) (Or.inl ⟨by kernel_rfl, fun w' hSw => by kernel_rfl⟩) hS ?_
            try simp only [Act.put]
            refine take_next (i := 17) (.string (M.bs x)) [18, 19, 20] (by kernel_rfl) (by kernel_rfl) rfl (by kernel_rfl) (by kernel_rfl) (by kernel_rfl) (by kernel_rfl) (fun _ _ _ h => absurd h.1 (by simp)) (Or.inl ⟨by kernel_rfl, fun w' hSw => by obtain ⟨s0, s1, s2, s3, s4, s5, s6, s7⟩ := hSw; go_simp⟩) hS ?_
            try simp only [Act.put]
            refine until_step (j := 18) (by kernel_rfl) rfl (by kernel_rfl) (fun KX hKX => ?_)
            have HX := hid hKX
            clear hKX
            go_simp
            refine (HCOV.out _).mono ?_
            rintro e w4 ⟨rfl, b4⟩
            have hb4 := hb3.tr b4
            have hS4 := HCSH.out _ hb4
            refine HX.out _ _ ⟨fun _ => hS4, ?_⟩
            clear HX b4
            try simp only [Act.put]
            refine take_next (i := 19) (.bool true) [20] (by kernel_rfl) (by kernel_rfl) rfl (by kernel_rfl) (by kernel_rfl) (by kernel_rfl) (by kernel_rfl) (fun _ _ _ h => absurd h.1 (by simp)) (Or.inl ⟨by kernel_rfl, fun w' hSw => by kernel_rfl⟩) hS4 ?_
            try simp only [Act.put]
            refine until_step (j := 20) (by kernel_rfl) rfl (by kernel_rfl) (fun KX hKX => ?_)
            have HX := hid hKX
            clear hKX
            go_simp
            refine HX.out _ _ ⟨fun _ => hS4, ?_⟩
            clear HX
            refine until_done (by kernel_rfl) ⟨rfl, ?_⟩ _
            refine HL.out _ _ ?_
            clear HL
            go_wp2_with fail
            go_ret
            exact ⟨by rw [M.rises_no hlt HKK.out]; rfl, hW1.tr (hW2.tr hb4)⟩
    · obtain rfl : i = p.es.length := by omega
      go_wp2_with fail
      go_ret
      obtain ⟨_, _, hW1⟩ := HC0.out wr hbr
      exact ⟨by rw [M.rises_yes hok]; rfl, hW1⟩
theorem rises_nil (p : M.Pg) (a : Option Addr) (cap : Nat) (w : World) (h0 : p.es = []) :
    Calls Try.prog 35 #[pv p (.slice a 0 cap)] w fun e w' => e = .returned (.bool (M.rises p.high p.es)) ∧ Bel w w' := by
  have HE : Hid (M.rises p.high p.es = true) := by show _ = _; rw [h0]; rfl
  go_enter Try.func35, Try.ntmps35
  go_wp2_with fail
  refine wp_loop_rounds 1 ?_
  rw [rounds_succ]
  go_wp2_with fail
  go_ret
  exact ⟨by rw [HE.out]; rfl, Bel.al (Below.refl _ _) _⟩
theorem rises_any (p : M.Pg) (x : Value) (w : World) (hs : Sm p) (hv : Vs w x p.es) :
    Calls Try.prog 35 #[pv p x] w fun e w' => e = .returned (.bool (M.rises p.high p.es)) ∧ Bel w w' := by
  rcases hv with ⟨rfl, h0⟩ | ⟨b, off, cap, rfl, hc, hb, hr⟩
  · exact rises_nil p none 0 w h0
  · by_cases h0 : p.es = []
    · rw [show p.es.length = 0 by rw [h0]; rfl]; exact rises_nil p _ cap w h0
    · refine rises_some p b off cap w hs hr hb ?_
      have : p.es.length ≠ 0 := fun h => h0 (List.length_eq_zero_iff.1 h)
      omega
theorem slice_of {w : World} {x : Value} {L : List M.En} (h : Vs w x L) : ∃ a n c, x = .slice a n c := by
  rcases h with ⟨rfl, _⟩ | ⟨b, off, cap, rfl, _⟩
  · exact ⟨_, _, _, rfl⟩
  · exact ⟨_, _, _, rfl⟩
end Go.Proofs.Ytcmplklefeicbaa
