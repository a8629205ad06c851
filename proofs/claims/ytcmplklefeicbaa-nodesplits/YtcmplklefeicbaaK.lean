/-
  The contract of node's Insert, whole.
-/
import Derived.Test.YtcmplklefeicbaaJ
namespace Go.Proofs.Ytcmplklefeicbaa
open Go.RowKit
set_option maxRecDepth 100000

theorem run_cut_nil (W : World) : (Instr.slice 28 (.slice none 0 0) none (some (.int .i64 0)) (some (.int .i64 0))).run Try.prog W = .ok (.slice none 0 0) W := by
  obtain ⟨i0, hi, hz0, hz1, hz2⟩ := info_parts info40
  have hu := Try.underlying28
  simp [Instr.slice, run_underlying hu, Instr.sliceBounds, Instr.sliceBound, asIntOf, sizeOf, typeInfo, hi, Sem.run_bind]
theorem run_rest_nil (W : World) : (Instr.slice 28 (.slice none 0 0) (some (.int .i64 0)) none none).run Try.prog W = .ok (.slice none 0 0) W := by
  obtain ⟨i0, hi, hz0, hz1, hz2⟩ := info_parts info40
  have hu := Try.underlying28
  simp [Instr.slice, run_underlying hu, Instr.sliceBounds, Instr.sliceBound, asIntOf, sizeOf, typeInfo, hi, Sem.run_bind]
set_option maxHeartbeats 8000000 in
theorem ins_none (p : M.Pg) (k v : List UInt8) (m : Bool) (w : World) (hs : Sm p) (h0 : p.es = []) (hu : M.Up M.cfS p.es) (hk : k.length ≤ 100000) (hvl : v.length ≤ 100000) :
    Calls Try.prog 11 #[pv p (.slice none 0 0), ev (k, v, m)] w fun e w' => ∃ x', e = .returned (.tuple #[pv (M.insP p (k, v, m)) x', .int .i64 (M.insE p (k, v, m))]) ∧ w'.ownsRow w.heap.size 40 3 x' (M.insP p (k, v, m)).es.length (csE (M.insP p (k, v, m)).es) ∧ Bel w w' := by
  have hv : Vals w (.slice none 0 0) p.es := ⟨none, 0, by rw [h0]; rfl, .inl h0⟩
  have zk : (M.bs k).size = k.length := M.bs_size k
  have zv : (M.bs v).size = v.length := M.bs_size v
  by_cases h1 : 64 < k.length
  · have h1' : (64 : Int) < (k.length : Int) := by omega
    have HE : Hid (M.insE p (k, v, m) = 1 ∧ M.insP p (k, v, m) = M.noPg) := by
      have : M.insE p (k, v, m) = 1 := by simp [M.insE, h1]
      exact ⟨this, by simp [M.insP, this]⟩
    go_enter Try.func11, Try.ntmps11
    go_wp2_with fail
    refine bodyPost_ret (results_cell_row2 (p := 4) (ty := 30) (u := 5) rfl _ _ (w.heap.size + 1 + 1) _ rfl (load30 (cs := noC) (IB.start w p _ k v m).b2 rfl)) rfl ?_
    exact ⟨.slice none 0 0, by rw [HE.out.1, HE.out.2]; rfl, by rw [HE.out.2]; exact World.ownsRow_nil _ _ _ _, Bel.al (Bel.al (Bel.al (Below.refl _ _) _) _) _⟩
  · have h1' : ¬ (64 : Int) < (k.length : Int) := by omega
    by_cases h2 : 100 < v.length
    · have h2' : (100 : Int) < (v.length : Int) := by omega
      have HE : Hid (M.insE p (k, v, m) = 1 ∧ M.insP p (k, v, m) = M.noPg) := by
        have : M.insE p (k, v, m) = 1 := by simp [M.insE, h1, h2]
        exact ⟨this, by simp [M.insP, this]⟩
      go_enter Try.func11, Try.ntmps11
      go_wp2_with fail
      refine bodyPost_ret (results_cell_row2 (p := 4) (ty := 30) (u := 5) rfl _ _ (w.heap.size + 1 + 1) _ rfl (load30 (cs := noC) (IB.start w p _ k v m).b2 rfl)) rfl ?_
      exact ⟨.slice none 0 0, by rw [HE.out.1, HE.out.2]; rfl, by rw [HE.out.2]; exact World.ownsRow_nil _ _ _ _, Bel.al (Bel.al (Bel.al (Below.refl _ _) _) _) _⟩
    · have h2' : ¬ (100 : Int) < (v.length : Int) := by omega
      have hcov := fun W => covers_any p (.slice none 0 0) k none 0 0 rfl W
      cases hc : M.cov p.high k with
      | false =>
        have HE : Hid (M.insE p (k, v, m) = 1 ∧ M.insP p (k, v, m) = M.noPg) := by
          have : M.insE p (k, v, m) = 1 := by simp [M.insE, h1, h2, hc]
          exact ⟨this, by simp [M.insP, this]⟩
        rw [hc] at hcov
        go_enter Try.func11, Try.ntmps11
        go_wp2_with (go_at_call 21; refine (hcov _).mono ?_; rintro e w3 ⟨rfl, b3⟩; have I3 := hid ((IB.start w p _ k v m).bel b3); clear b3; obtain ⟨d0, d1, d2, d3, d4, d5, df⟩ := I3.out.out; have df0 := df 0; have df1 := df 1; have df2 := df 2; have df3 := df 3; have df4 := df 4; have df5 := df 5; clear df)
        refine bodyPost_ret (results_cell_row2 (p := 4) (ty := 30) (u := 5) rfl _ _ (w.heap.size + 1 + 1) _ rfl (load30 (cs := noC) (set6 I3.out.b2 _ _ _ _ _ _) rfl)) rfl ?_
        exact ⟨.slice none 0 0, by rw [HE.out.1, HE.out.2]; rfl, by rw [HE.out.2]; exact World.ownsRow_nil _ _ _ _, bel6 I3.out.below (by omega) _ _ _ _ _ _⟩
      | true =>
        rw [hc] at hcov
        have hfind := fun W hW => find_any p (.slice none 0 0) k W hs (hv.bel hW) hu
        have hfree := fun W hW => free_any p (.slice none 0 0) W hs (hv.bel hW)
        have hsize := fun W => size_any k v m W (by omega) (by omega)
        have hp0 : M.pos M.cfS p.es k = 0 := by rw [h0]; rfl
        rw [hp0] at hfind
        have HSET : Hid (M.set M.cfS p.es k (v, m) = [(k, v, m)]) := by show _ = _; rw [h0]; rfl
        clear hp0
        cases hh : M.has M.cfS p.es k with
        | true =>
          have HE : Hid (M.insE p (k, v, m) = 12 ∧ M.insP p (k, v, m) = M.noPg) := by
            have : M.insE p (k, v, m) = 12 := by simp [M.insE, h1, h2, hc, hh]
            exact ⟨this, by simp [M.insP, this]⟩
          rw [hh] at hfind
          have HF := hid hfind
          clear hfind hfree hsize
          go_enter Try.func11, Try.ntmps11
          go_wp2_with (first
            | (go_at_call 21; refine (hcov _).mono ?_; rintro e w3 ⟨rfl, b3⟩; have I3 := hid ((IB.start w p _ k v m).bel b3); clear b3; obtain ⟨e0, e1, e2, e3, e4, e5, f0, f1, f2⟩ := I3.out.cells)
            | (go_at_call 24; refine (HF.out _ I3.out.below).mono ?_; rintro e w4 ⟨rfl, b4⟩; have I4 := hid (I3.out.bel b4); clear b4; obtain ⟨d0, d1, d2, d3, d4, d5, df⟩ := I4.out.out; have df0 := df 0; have df1 := df 1; have df2 := df 2; have df3 := df 3; have df4 := df 4; have df5 := df 5; clear df))
          refine bodyPost_ret (results_cell_row2 (p := 4) (ty := 30) (u := 5) rfl _ _ (w.heap.size + 1 + 1) _ rfl (load30 (cs := noC) (set6 I4.out.b2 _ _ _ _ _ _) rfl)) rfl ?_
          exact ⟨.slice none 0 0, by rw [HE.out.1, HE.out.2]; rfl, by rw [HE.out.2]; exact World.ownsRow_nil _ _ _ _, bel6 I4.out.below (by omega) _ _ _ _ _ _⟩
        | false =>
          rw [hh] at hfind
          have HF := hid hfind
          have HFR := hid hfree
          clear hfind hfree
          by_cases h5 : M.free p < (M.szE (k, v, m) : Int)
          · have HE : Hid (M.insE p (k, v, m) = 8 ∧ M.insP p (k, v, m) = M.noPg) := by
              have : M.insE p (k, v, m) = 8 := by simp [M.insE, h1, h2, hc, hh, h5]
              exact ⟨this, by simp [M.insP, this]⟩
            go_enter Try.func11, Try.ntmps11
            go_wp2_with (first
              | (go_at_call 21; refine (hcov _).mono ?_; rintro e w3 ⟨rfl, b3⟩; have I3 := hid ((IB.start w p _ k v m).bel b3); clear b3; obtain ⟨e0, e1, e2, e3, e4, e5, f0, f1, f2⟩ := I3.out.cells)
              | (go_at_call 24; refine (HF.out _ I3.out.below).mono ?_; rintro e w4 ⟨rfl, b4⟩; have I4 := hid (I3.out.bel b4); clear b4; obtain ⟨g0, g1, g2, g3, g4, g5, j0, j1, j2⟩ := I4.out.cells))
            refine wp_normal ?_
            refine region_until (S := fun W : World => IB w W p (.slice none 0 0) k v m) (m := 4) (by kernel_rfl) ?_
            have I5 := hid (I4.out.bel (Bel.dr (Below.refl _ _)))
            clear g0 g1 g2 g3 g4 g5 j0 j1 j2 e0 e1 e2 e3 e4 e5 f0 f1 f2 I3 I4
            generalize w4.drew = w5 at *
            refine take_next (i := 0) (.agg #[.int .i64 p.lsn, .int .i64 p.kind, .int .i64 p.level, .int .i64 p.right, .string (M.bs p.high), .slice none 0 0]) [1, 4] (by kernel_rfl) (by kernel_rfl) rfl (by kernel_rfl) (by kernel_rfl) (by kernel_rfl) (by kernel_rfl) (fun _ _ _ h => absurd h.1 (by simp)) (Or.inl ⟨by rfl, fun w' hSw => by obtain ⟨e0, e1, e2, e3, e4, e5, f0, f1, f2⟩ := hSw.cells; go_simp⟩) I5.out ?_
            try simp only [Act.put]
            refine take_next (i := 2) (.agg #[.string (M.bs k), .string (M.bs v), .bool m]) [3, 4] (by kernel_rfl) (by kernel_rfl) rfl (by kernel_rfl) (by kernel_rfl) (by kernel_rfl) (by kernel_rfl) (fun _ _ _ h => absurd h.1 (by simp)) (Or.inl ⟨by rfl, fun w' hSw => by obtain ⟨e0, e1, e2, e3, e4, e5, f0, f1, f2⟩ := hSw.cells; go_simp⟩) I5.out ?_
            try simp only [Act.put]
            refine until_ready (rs := [1]) (by kernel_rfl) (by simp) ?_
            intro jj hjj
            simp only [List.mem_cons, List.not_mem_nil, or_false] at hjj
            subst hjj
            refine wpOp_step rfl (fun KX hKX => ?_)
            have HX := hid hKX
            clear hKX
            go_simp
            refine (HFR.out _ I5.out.below).mono ?_
            rintro e w6 ⟨rfl, b6⟩
            have I6 := hid (I5.out.bel b6)
            refine HX.out _ _ ⟨fun _ => I6.out, ?_⟩
            clear HX b6 I5
            try simp only [Act.put]
            refine until_ready (rs := [3]) (by kernel_rfl) (by simp) ?_
            intro jj hjj
            simp only [List.mem_cons, List.not_mem_nil, or_false] at hjj
            subst hjj
            refine wpOp_step rfl (fun KX hKX => ?_)
            have HX := hid hKX
            clear hKX
            go_simp
            refine (hsize _).mono ?_
            rintro e w7 ⟨rfl, b7⟩
            have I7 := hid (I6.out.bel b7)
            refine HX.out _ _ ⟨fun _ => I7.out, ?_⟩
            clear HX b7 I6
            try simp only [Act.put]
            refine until_ready (rs := [4]) (by kernel_rfl) (by simp) ?_
            intro jj hjj
            simp only [List.mem_cons, List.not_mem_nil, or_false] at hjj
            subst hjj
            refine wpOp_step rfl (fun KX hKX => ?_)
            have HX := hid hKX
            clear hKX
            go_simp
            refine HX.out _ _ ⟨fun _ => I7.out, ?_⟩
            clear HX
            refine until_done (by kernel_rfl) ⟨rfl, ?_⟩ _
            obtain ⟨d0, d1, d2, d3, d4, d5, df⟩ := I7.out.out
            have df0 := df 0
            have df1 := df 1
            have df2 := df 2
            have df3 := df 3
            have df4 := df 4
            have df5 := df 5
            clear df
            go_wp2_with fail
            refine bodyPost_ret (results_cell_row2 (p := 4) (ty := 30) (u := 5) rfl _ _ (w.heap.size + 1 + 1) _ rfl (load30 (cs := noC) (set6 I7.out.b2 _ _ _ _ _ _) rfl)) rfl ?_
            exact ⟨.slice none 0 0, by rw [HE.out.1, HE.out.2]; rfl, by rw [HE.out.2]; exact World.ownsRow_nil _ _ _ _, bel6 I7.out.below (by omega) _ _ _ _ _ _⟩
          · have HE : Hid (M.insE p (k, v, m) = 0 ∧ M.insP p (k, v, m) = { p with es := M.set M.cfS p.es k (v, m) }) := by
              have : M.insE p (k, v, m) = 0 := by simp [M.insE, h1, h2, hc, hh, h5]
              exact ⟨this, by simp [M.insP, this]⟩
            go_enter Try.func11, Try.ntmps11
            go_wp2_with (first
              | (go_at_call 21; refine (hcov _).mono ?_; rintro e w3 ⟨rfl, b3⟩; have I3 := hid ((IB.start w p _ k v m).bel b3); clear b3; obtain ⟨e0, e1, e2, e3, e4, e5, f0, f1, f2⟩ := I3.out.cells)
              | (go_at_call 24; refine (HF.out _ I3.out.below).mono ?_; rintro e w4 ⟨rfl, b4⟩; have I4 := hid (I3.out.bel b4); clear b4; obtain ⟨g0, g1, g2, g3, g4, g5, j0, j1, j2⟩ := I4.out.cells))
            refine wp_normal ?_
            refine region_until (S := fun W : World => IB w W p (.slice none 0 0) k v m) (m := 4) (by kernel_rfl) ?_
            have I5 := hid (I4.out.bel (Bel.dr (Below.refl _ _)))
            clear g0 g1 g2 g3 g4 g5 j0 j1 j2 e0 e1 e2 e3 e4 e5 f0 f1 f2 I3 I4
            generalize w4.drew = w5 at *
            refine take_next (i := 0) (.agg #[.int .i64 p.lsn, .int .i64 p.kind, .int .i64 p.level, .int .i64 p.right, .string (M.bs p.high), .slice none 0 0]) [1, 4] (by kernel_rfl) (by kernel_rfl) rfl (by kernel_rfl) (by kernel_rfl) (by kernel_rfl) (by kernel_rfl) (fun _ _ _ h => absurd h.1 (by simp)) (Or.inl ⟨by rfl, fun w' hSw => by obtain ⟨e0, e1, e2, e3, e4, e5, f0, f1, f2⟩ := hSw.cells; go_simp⟩) I5.out ?_
            try simp only [Act.put]
            refine take_next (i := 2) (.agg #[.string (M.bs k), .string (M.bs v), .bool m]) [3, 4] (by kernel_rfl) (by kernel_rfl) rfl (by kernel_rfl) (by kernel_rfl) (by kernel_rfl) (by kernel_rfl) (fun _ _ _ h => absurd h.1 (by simp)) (Or.inl ⟨by rfl, fun w' hSw => by obtain ⟨e0, e1, e2, e3, e4, e5, f0, f1, f2⟩ := hSw.cells; go_simp⟩) I5.out ?_
            try simp only [Act.put]
            refine until_ready (rs := [1]) (by kernel_rfl) (by simp) ?_
            intro jj hjj
            simp only [List.mem_cons, List.not_mem_nil, or_false] at hjj
            subst hjj
            refine wpOp_step rfl (fun KX hKX => ?_)
            have HX := hid hKX
            clear hKX
            go_simp
            refine (HFR.out _ I5.out.below).mono ?_
            rintro e w6 ⟨rfl, b6⟩
            have I6 := hid (I5.out.bel b6)
            refine HX.out _ _ ⟨fun _ => I6.out, ?_⟩
            clear HX b6 I5
            try simp only [Act.put]
            refine until_ready (rs := [3]) (by kernel_rfl) (by simp) ?_
            intro jj hjj
            simp only [List.mem_cons, List.not_mem_nil, or_false] at hjj
            subst hjj
            refine wpOp_step rfl (fun KX hKX => ?_)
            have HX := hid hKX
            clear hKX
            go_simp
            refine (hsize _).mono ?_
            rintro e w7 ⟨rfl, b7⟩
            have I7 := hid (I6.out.bel b7)
            refine HX.out _ _ ⟨fun _ => I7.out, ?_⟩
            clear HX b7 I6
            try simp only [Act.put]
            refine until_ready (rs := [4]) (by kernel_rfl) (by simp) ?_
            intro jj hjj
            simp only [List.mem_cons, List.not_mem_nil, or_false] at hjj
            subst hjj
            refine wpOp_step rfl (fun KX hKX => ?_)
            have HX := hid hKX
            clear hKX
            go_simp
            refine HX.out _ _ ⟨fun _ => I7.out, ?_⟩
            clear HX
            refine until_done (by kernel_rfl) ⟨rfl, ?_⟩ _
            obtain ⟨e0, e1, e2, e3, e4, e5, f0, f1, f2⟩ := I7.out.cells
            go_wp2_with fail
            refine wp_last fun KL hKL => ?_
            have HL := hid hKL
            clear hKL
            refine region_until (S := fun W : World => IB w W p (.slice none 0 0) k v m) (m := 14) (by kernel_rfl) ?_
            have I8 := hid (I7.out.bel (Bel.dr (Below.refl _ _)))
            clear e0 e1 e2 e3 e4 e5 f0 f1 f2 I7
            generalize w7.drew = w8 at *
            have Z8 := hid I8.out.below.size
            have cut := run_cut_nil
            have rest := run_rest_nil
            obtain ⟨v1, w9, ha1, k9, hv1, v2, w10, ha2, o10, k10⟩ := app_one w8 (k, v, m)
            refine take_next (i := 0) (.pointer (some ⟨w.heap.size, 5, none⟩)) [1, 4, 7, 12, 14] (by kernel_rfl) (by kernel_rfl) rfl (by kernel_rfl) (by kernel_rfl) (by kernel_rfl) (by kernel_rfl) (fun _ _ _ h => absurd h.1 (by simp)) (Or.inl ⟨by rfl, fun w' hSw => by obtain ⟨e0, e1, e2, e3, e4, e5, f0, f1, f2⟩ := hSw.cells; go_simp⟩) I8.out ?_
            try simp only [Act.put]
            refine take_next (i := 1) (.slice none 0 0) [4, 7, 12, 14] (by kernel_rfl) (by kernel_rfl) rfl (by kernel_rfl) (by kernel_rfl) (by kernel_rfl) (by kernel_rfl) (fun _ _ _ h => absurd h.1 (by simp)) (Or.inl ⟨by rfl, fun w' hSw => by obtain ⟨e0, e1, e2, e3, e4, e5, f0, f1, f2⟩ := hSw.cells; go_simp⟩) I8.out ?_
            try simp only [Act.put]
            refine take_next (i := 2) (.int .i64 0) [4, 7, 12, 14] (by kernel_rfl) (by kernel_rfl) rfl (by kernel_rfl) (by kernel_rfl) (by kernel_rfl) (by kernel_rfl) (fun _ _ _ h => absurd h.1 (by simp)) (Or.inl ⟨by rfl, fun w' hSw => by obtain ⟨e0, e1, e2, e3, e4, e5, f0, f1, f2⟩ := hSw.cells; go_simp⟩) I8.out ?_
            try simp only [Act.put]
            refine take_next (i := 3) (.int .i64 0) [4, 7, 12, 14] (by kernel_rfl) (by kernel_rfl) rfl (by kernel_rfl) (by kernel_rfl) (by kernel_rfl) (by kernel_rfl) (fun _ _ _ h => absurd h.1 (by simp)) (Or.inl ⟨by rfl, fun w' hSw => by obtain ⟨e0, e1, e2, e3, e4, e5, f0, f1, f2⟩ := hSw.cells; go_simp⟩) I8.out ?_
            try simp only [Act.put]
            refine take_next (i := 4) (.slice none 0 0) [7, 12, 14] (by kernel_rfl) (by kernel_rfl) rfl (by kernel_rfl) (by kernel_rfl) (by kernel_rfl) (by kernel_rfl) (fun _ _ _ h => absurd h.1 (by simp)) (Or.inl ⟨by rfl, fun w' hSw => by obtain ⟨e0, e1, e2, e3, e4, e5, f0, f1, f2⟩ := hSw.cells; go_simp⟩) I8.out ?_
            try simp only [Act.put]
            refine take_next (i := 5) (.agg #[.string (M.bs k), .string (M.bs v), .bool m]) [6, 7, 12, 14] (by kernel_rfl) (by kernel_rfl) rfl (by kernel_rfl) (by kernel_rfl) (by kernel_rfl) (by kernel_rfl) (fun _ _ _ h => absurd h.1 (by simp)) (Or.inl ⟨by rfl, fun w' hSw => by obtain ⟨e0, e1, e2, e3, e4, e5, f0, f1, f2⟩ := hSw.cells; go_simp⟩) I8.out ?_
            try simp only [Act.put]
            refine take_next (i := 8) (.pointer (some ⟨w.heap.size, 5, none⟩)) [9, 11, 12, 14] (by kernel_rfl) (by kernel_rfl) rfl (by kernel_rfl) (by kernel_rfl) (by kernel_rfl) (by kernel_rfl) (fun _ _ _ h => absurd h.1 (by simp)) (Or.inl ⟨by rfl, fun w' hSw => by obtain ⟨e0, e1, e2, e3, e4, e5, f0, f1, f2⟩ := hSw.cells; go_simp⟩) I8.out ?_
            try simp only [Act.put]
            refine take_next (i := 9) (.slice none 0 0) [11, 12, 14] (by kernel_rfl) (by kernel_rfl) rfl (by kernel_rfl) (by kernel_rfl) (by kernel_rfl) (by kernel_rfl) (fun _ _ _ h => absurd h.1 (by simp)) (Or.inl ⟨by rfl, fun w' hSw => by obtain ⟨e0, e1, e2, e3, e4, e5, f0, f1, f2⟩ := hSw.cells; go_simp⟩) I8.out ?_
            try simp only [Act.put]
            refine take_next (i := 10) (.int .i64 0) [11, 12, 14] (by kernel_rfl) (by kernel_rfl) rfl (by kernel_rfl) (by kernel_rfl) (by kernel_rfl) (by kernel_rfl) (fun _ _ _ h => absurd h.1 (by simp)) (Or.inl ⟨by rfl, fun w' hSw => by obtain ⟨e0, e1, e2, e3, e4, e5, f0, f1, f2⟩ := hSw.cells; go_simp⟩) I8.out ?_
            try simp only [Act.put]
            refine take_next (i := 11) (.slice none 0 0) [12, 14] (by kernel_rfl) (by kernel_rfl) rfl (by kernel_rfl) (by kernel_rfl) (by kernel_rfl) (by kernel_rfl) (fun _ _ _ h => absurd h.1 (by simp)) (Or.inl ⟨by rfl, fun w' hSw => by obtain ⟨e0, e1, e2, e3, e4, e5, f0, f1, f2⟩ := hSw.cells; go_simp⟩) I8.out ?_
            try simp only [Act.put]
            refine until_ready (rs := [6]) (by kernel_rfl) (by simp) ?_
            intro jj hjj
            simp only [List.mem_cons, List.not_mem_nil, or_false] at hjj
            subst hjj
            refine wpOp_step rfl (fun KX hKX => ?_)
            have HX := hid hKX
            clear hKX
            go_simp
            refine HX.out _ _ ⟨fun _ => I8.out.bel (Bel.al (Below.refl _ _) _), ?_⟩
            clear HX
            try simp only [Act.put]
            refine until_ready (rs := [7]) (by kernel_rfl) (by simp) ?_
            intro jj hjj
            simp only [List.mem_cons, List.not_mem_nil, or_false] at hjj
            subst hjj
            refine wpOp_step rfl (fun KX hKX => ?_)
            have HX := hid hKX
            clear hKX
            refine app_run_step (by rfl) _ _ 28 (by rfl) (by rfl) (by rfl) (by exact ha1) ?_
            refine HX.out _ _ ⟨fun _ => I8.out.bel k9, ?_⟩
            clear HX
            try simp only [Act.put]
            refine until_ready (rs := [12]) (by kernel_rfl) (by simp) ?_
            intro jj hjj
            simp only [List.mem_cons, List.not_mem_nil, or_false] at hjj
            subst hjj
            refine wpOp_step rfl (fun KX hKX => ?_)
            have HX := hid hKX
            clear hKX
            refine app_run_step (by rfl) _ _ 28 (by rfl) (by rfl) (by rfl) (by exact ha2) ?_
            have I10 := hid (I8.out.bel k10)
            refine HX.out _ _ ⟨fun _ => I10.out, ?_⟩
            clear HX ha1 ha2 k9 k10
            try simp only [Act.put]
            refine until_ready (rs := [13]) (by kernel_rfl) (by simp) ?_
            intro jj hjj
            simp only [List.mem_cons, List.not_mem_nil, or_false] at hjj
            subst hjj
            refine wpOp_step rfl (fun KX hKX => ?_)
            have HX := hid hKX
            clear hKX
            go_simp
            refine HX.out _ _ ⟨fun _ => I10.out, ?_⟩
            clear HX
            try simp only [Act.put]
            have O10 := hid o10
            obtain ⟨a10, cap10, rfl⟩ := row_form o10
            have x5 := I10.out.cells.2.2.2.2.2.1
            have xf := I10.out.b0.frozen 5
            clear o10
            refine until_ready (rs := [14]) (by kernel_rfl) (by simp) ?_
            intro jj hjj
            simp only [List.mem_cons, List.not_mem_nil, or_false] at hjj
            subst hjj
            refine wpOp_step rfl (fun KX hKX => ?_)
            have HX := hid hKX
            clear hKX
            go_simp
            refine HX.out _ _ ⟨(fun h => by cases (Eq.trans (Eq.symm (show _ = true by kernel_rfl)) h)), ?_⟩
            clear HX
            refine until_done (by kernel_rfl) ⟨rfl, ?_⟩ _
            refine HL.out _ _ ?_
            clear HL
            have J := hid (I10.out.store (.slice a10 1 cap10))
            have OJ := hid (ownsRow_setCell_other (a := ⟨w.heap.size, 5, none⟩) O10.out (fun e => row_ne O10.out I10.out.b0 (by decide) e.symm) (.slice a10 1 cap10))
            clear x5 xf I10 O10 I8
            generalize w10.setCell ⟨w.heap.size, 5, none⟩ (.slice a10 1 cap10) = w11 at *
            obtain ⟨e0, e1, e2, e3, e4, e5, f0, f1, f2⟩ := J.out.cells
            obtain ⟨d0, d1, d2, d3, d4, d5, df⟩ := J.out.out
            have df0 := df 0
            have df1 := df 1
            have df2 := df 2
            have df3 := df 3
            have df4 := df 4
            have df5 := df 5
            clear df
            go_wp2_with fail
            refine bodyPost_ret (results_cell_row2 (p := 4) (ty := 30) (u := 5) rfl _ _ (w.heap.size + 1 + 1) _ rfl (load30 (cs := #[.int .i64 p.lsn, .int .i64 p.kind, .int .i64 p.level, .int .i64 p.right, .string (M.bs p.high), .slice a10 1 cap10]) (set6 J.out.b2 _ _ _ _ _ _) rfl)) rfl ?_
            refine ⟨_, by rw [HE.out.1, HE.out.2]; rfl, ?_, bel6 J.out.below (by omega) _ _ _ _ _ _⟩
            rw [HE.out.2]
            exact own6 (own_base OJ.out Z8.out) (row_ne OJ.out J.out.b2 (by decide)) _ _ _ _ _ _ (by show (M.set M.cfS p.es k (v, m)).length = _; rw [HSET.out]; simp ) (by show csE (M.set M.cfS p.es k (v, m)) = _; rw [HSET.out])
theorem insert_any (p : M.Pg) (x : Value) (e : M.En) (w : World) (hs : Sm p) (hv : Vs w x p.es) (hu : M.Up M.cfS p.es) (hk : e.1.length ≤ 100000) (hvl : e.2.1.length ≤ 100000) :
    Calls Try.prog 11 #[pv p x, ev e] w fun r w' => ∃ x', r = .returned (.tuple #[pv (M.insP p e) x', .int .i64 (M.insE p e)]) ∧ w'.ownsRow w.heap.size 40 3 x' (M.insP p e).es.length (csE (M.insP p e).es) ∧ Bel w w' := by
  obtain ⟨k, v, m⟩ := e
  rcases hv with ⟨rfl, h0⟩ | ⟨b, off, cap, rfl, hc, hb, hr⟩
  · exact ins_none p k v m w hs h0 hu hk hvl
  · exact ins_some p b off cap k v m w hs hc hb hr hu hk hvl
end Go.Proofs.Ytcmplklefeicbaa
