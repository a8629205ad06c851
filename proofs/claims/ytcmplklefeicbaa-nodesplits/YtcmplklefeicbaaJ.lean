/-
  The contract of node's Insert, walked: where it is put in.
-/
import Derived.Test.YtcmplklefeicbaaI
namespace Go.Proofs.Ytcmplklefeicbaa
open Go.RowKit
set_option maxRecDepth 100000

theorem wp_last {P : Program} {s : Code} {Q : Exit → Go.Act → World → Prop} {a : Go.Act} {w : World} (h : ∀ K : Go.Act → World → Prop, (∀ a' w', Q .normal a' w' → K a' w') → s.wp P (fun e a w => e = .normal ∧ K a w) a w) : s.wp P Q a w := by
  refine wp_mono (h (Q .normal) (fun _ _ q => q)) ?_
  rintro e a' w' ⟨rfl, hq⟩
  exact hq
theorem IB.store {w W : World} {p : M.Pg} {x : Value} {k v : List UInt8} {m : Bool} (h : IB w W p x k v m) (x' : Value) : IB w (W.setCell ⟨w.heap.size, 5, none⟩ x') p x' k v m := by
  have ks := (Keep.refl (fun j => j ≠ w.heap.size) W).set (p := ⟨w.heap.size, 5, none⟩) (by simp) x'
  refine ⟨?_, (ks.block _ (by omega)).trans h.b1, (ks.block _ (by omega)).trans h.b2, Below.setCell h.below (by simp) x'⟩
  have z := h.b0.set 5 x'
  simpa using z
theorem own6 {W : World} {base B n : Nat} {v : Value} {xs : List Value} (h : W.ownsRow base 40 3 v n xs) (hB : some B ≠ v.ownBlock) (c0 c1 c2 c3 c4 c5 : Value) {n' : Nat} {ys : List Value} (hn : n' = n) (hy : ys = xs) : ((((((W.setCell ⟨B, 0, none⟩ c0).setCell ⟨B, 1, none⟩ c1).setCell ⟨B, 2, none⟩ c2).setCell ⟨B, 3, none⟩ c3).setCell ⟨B, 4, none⟩ c4).setCell ⟨B, 5, none⟩ c5).ownsRow base 40 3 v n' ys := by
  subst hn hy
  exact (ownsRow_setCell_other (ownsRow_setCell_other (ownsRow_setCell_other (ownsRow_setCell_other (ownsRow_setCell_other (ownsRow_setCell_other h (fun e => hB e.symm) _) (fun e => hB e.symm) _) (fun e => hB e.symm) _) (fun e => hB e.symm) _) (fun e => hB e.symm) _) (fun e => hB e.symm) _)
theorem own_base {W : World} {base base' n : Nat} {v : Value} {xs : List Value} (h : W.ownsRow base 40 3 v n xs) (hb : base' ≤ base) : W.ownsRow base' 40 3 v n xs := by
  refine ⟨h.1, h.2.imp id ?_⟩
  rintro ⟨g, cap, cur, hv, hg, rest⟩
  exact ⟨g, cap, cur, hv, by omega, rest⟩
theorem app_one (w : World) (e : M.En) :
    ∃ v1 w1, (Builtin.append_ #[28, 28] 28 #[.slice none 0 0, .slice (some ⟨w.heap.size, 0, none⟩) 1 1]).run Try.prog (w.alloc (.cells #[.string (M.bs e.1), .string (M.bs e.2.1), .bool e.2.2] 40)) = .ok v1 w1 ∧ Bel w w1 ∧ v1.oneCell' = true ∧
      ∃ v2 w2, (Builtin.append_ #[28, 28] 28 #[v1, .slice none 0 0]).run Try.prog w1 = .ok v2 w2 ∧ w2.ownsRow w.heap.size 40 3 v2 1 (csE [e]) ∧ Bel w w2 := by
  obtain ⟨i0, hinfo, hz0, hz1, hz2⟩ := info_parts info40
  have kA : Bel w (w.alloc (.cells #[.string (M.bs e.1), .string (M.bs e.2.1), .bool e.2.2] 40)) := Bel.al (Below.refl _ _) _
  obtain ⟨v1, w1, g1, g2, g3, _, g5⟩ := run_append_own_at (P := Try.prog) (w.alloc (.cells #[.string (M.bs e.1), .string (M.bs e.2.1), .bool e.2.2] 40)) w.heap.size 28 28 40 i0 _ 3 40 Try.underlying28 hinfo hz0 hz1 hz2 rfl (by decide) (.slice none 0 0) 0 [] (World.ownsRow_nil _ _ _ _) ⟨w.heap.size, 0, none⟩ 1 1 (csE [e]) (by rw [csE_length]; rfl) (fun j u hj => by
    rw [add_lit, Nat.zero_add, World.cell?_alloc_at (hn := rfl)]
    simpa [csE] using hj) (csE_one _) (by unfold maxLen; omega) (by omega) (by simp)
  have k1 : Bel w w1 := kA.grown g3 (by simp) (by intro k hk; cases hk)
  have o1 : v1.oneCell' = true := by rcases g2.2 with ⟨rfl, _⟩ | ⟨_, _, _, rfl, _⟩ <;> rfl
  exact ⟨v1, w1, g1, k1, o1, v1, w1, run_append_owned_none (P := Try.prog) w1 w.heap.size 28 28 40 i0 3 Try.underlying28 hinfo v1 _ _ g2, by simpa using g2, k1⟩
set_option maxHeartbeats 8000000 in
theorem ins_some (p : M.Pg) (b off cap : Nat) (k v : List UInt8) (m : Bool) (w : World) (hs : Sm p) (hcap : p.es.length ≤ cap) (hb : b < w.heap.size) (hr : Row3 w b off p.es) (hu : M.Up M.cfS p.es) (hk : k.length ≤ 100000) (hvl : v.length ≤ 100000) :
    Calls Try.prog 11 #[pv p (.slice (some ⟨b, off, none⟩) p.es.length cap), ev (k, v, m)] w fun e w' => ∃ x', e = .returned (.tuple #[pv (M.insP p (k, v, m)) x', .int .i64 (M.insE p (k, v, m))]) ∧ w'.ownsRow w.heap.size 40 3 x' (M.insP p (k, v, m)).es.length (csE (M.insP p (k, v, m)).es) ∧ Bel w w' := by
  have hv : Vals w (.slice (some ⟨b, off, none⟩) p.es.length cap) p.es := ⟨_, cap, rfl, .inr ⟨b, off, rfl, hr⟩⟩
  have zk : (M.bs k).size = k.length := M.bs_size k
  have zv : (M.bs v).size = v.length := M.bs_size v
  by_cases h1 : 64 < k.length
  · have h1' : (64 : Int) < (k.length : Int) := by omega
    have HE : Hid (M.insE p (k, v, m) = 1 ∧ M.insP p (k, v, m) = M.noPg) := by
      have : M.insE p (k, v, m) = 1 := by simp [M.insE, h1]
      exact ⟨this, by simp [M.insP, this]⟩
    go_enter Try.func11, Try.ntmps11
    go_wp2_with fail
    refine bodyPost_ret (results_cell_row2 (p := 4) (ty := 30) (u := 5) rfl _ _ (w.heap.size + 1 + 1) _ rfl (load30 (cs := noC) (IB.start w p _ k v m).b2 rfl)) rfl ?_
    exact ⟨.slice none 0 0, by rw [HE.out.1, HE.out.2]; rfl, by rw [HE.out.2]; exact World.ownsRow_nil _ _ _ _, Bel.al (Bel.al (Bel.al (Below.refl _ _) _) _) _⟩
  · have h1' : ¬ (64 : Int) < (k.length : Int) := by omega
    by_cases h2 : 100 < v.length
    · have h2' : (100 : Int) < (v.length : Int) := by omega
      have HE : Hid (M.insE p (k, v, m) = 1 ∧ M.insP p (k, v, m) = M.noPg) := by
        have : M.insE p (k, v, m) = 1 := by simp [M.insE, h1, h2]
        exact ⟨this, by simp [M.insP, this]⟩
      go_enter Try.func11, Try.ntmps11
      go_wp2_with fail
      refine bodyPost_ret (results_cell_row2 (p := 4) (ty := 30) (u := 5) rfl _ _ (w.heap.size + 1 + 1) _ rfl (load30 (cs := noC) (IB.start w p _ k v m).b2 rfl)) rfl ?_
      exact ⟨.slice none 0 0, by rw [HE.out.1, HE.out.2]; rfl, by rw [HE.out.2]; exact World.ownsRow_nil _ _ _ _, Bel.al (Bel.al (Bel.al (Below.refl _ _) _) _) _⟩
    · have h2' : ¬ (100 : Int) < (v.length : Int) := by omega
      have hcov := fun W => covers_any p (.slice (some ⟨b, off, none⟩) p.es.length cap) k _ p.es.length cap rfl W
      cases hc : M.cov p.high k with
      | false =>
        have HE : Hid (M.insE p (k, v, m) = 1 ∧ M.insP p (k, v, m) = M.noPg) := by
          have : M.insE p (k, v, m) = 1 := by simp [M.insE, h1, h2, hc]
          exact ⟨this, by simp [M.insP, this]⟩
        rw [hc] at hcov
        go_enter Try.func11, Try.ntmps11
        go_wp2_with (go_at_call 21; refine (hcov _).mono ?_; rintro e w3 ⟨rfl, b3⟩; have I3 := hid ((IB.start w p _ k v m).bel b3); clear b3; obtain ⟨d0, d1, d2, d3, d4, d5, df⟩ := I3.out.out; have df0 := df 0; have df1 := df 1; have df2 := df 2; have df3 := df 3; have df4 := df 4; have df5 := df 5; clear df)
        refine bodyPost_ret (results_cell_row2 (p := 4) (ty := 30) (u := 5) rfl _ _ (w.heap.size + 1 + 1) _ rfl (load30 (cs := noC) (set6 I3.out.b2 _ _ _ _ _ _) rfl)) rfl ?_
        exact ⟨.slice none 0 0, by rw [HE.out.1, HE.out.2]; rfl, by rw [HE.out.2]; exact World.ownsRow_nil _ _ _ _, bel6 I3.out.below (by omega) _ _ _ _ _ _⟩
      | true =>
        rw [hc] at hcov
        have hfind := fun W hW => find_any p (.slice (some ⟨b, off, none⟩) p.es.length cap) k W hs (hv.bel hW) hu
        have hfree := fun W hW => free_any p (.slice (some ⟨b, off, none⟩) p.es.length cap) W hs (hv.bel hW)
        have hsize := fun W => size_any k v m W (by omega) (by omega)
        have hps := M.pos_le (cf := M.cfS) p.es k
        cases hh : M.has M.cfS p.es k with
        | true =>
          have HE : Hid (M.insE p (k, v, m) = 12 ∧ M.insP p (k, v, m) = M.noPg) := by
            have : M.insE p (k, v, m) = 12 := by simp [M.insE, h1, h2, hc, hh]
            exact ⟨this, by simp [M.insP, this]⟩
          rw [hh] at hfind
          have HF := hid hfind
          clear hfind hfree hsize
          go_enter Try.func11, Try.ntmps11
          go_wp2_with (first
            | (go_at_call 21; refine (hcov _).mono ?_; rintro e w3 ⟨rfl, b3⟩; have I3 := hid ((IB.start w p _ k v m).bel b3); clear b3; obtain ⟨e0, e1, e2, e3, e4, e5, f0, f1, f2⟩ := I3.out.cells)
            | (go_at_call 24; refine (HF.out _ I3.out.below).mono ?_; rintro e w4 ⟨rfl, b4⟩; have I4 := hid (I3.out.bel b4); clear b4; obtain ⟨d0, d1, d2, d3, d4, d5, df⟩ := I4.out.out; have df0 := df 0; have df1 := df 1; have df2 := df 2; have df3 := df 3; have df4 := df 4; have df5 := df 5; clear df))
          refine bodyPost_ret (results_cell_row2 (p := 4) (ty := 30) (u := 5) rfl _ _ (w.heap.size + 1 + 1) _ rfl (load30 (cs := noC) (set6 I4.out.b2 _ _ _ _ _ _) rfl)) rfl ?_
          exact ⟨.slice none 0 0, by rw [HE.out.1, HE.out.2]; rfl, by rw [HE.out.2]; exact World.ownsRow_nil _ _ _ _, bel6 I4.out.below (by omega) _ _ _ _ _ _⟩
        | false =>
          rw [hh] at hfind
          have HF := hid hfind
          have HFR := hid hfree
          clear hfind hfree
          by_cases h5 : M.free p < (M.szE (k, v, m) : Int)
          · have HE : Hid (M.insE p (k, v, m) = 8 ∧ M.insP p (k, v, m) = M.noPg) := by
              have : M.insE p (k, v, m) = 8 := by simp [M.insE, h1, h2, hc, hh, h5]
              exact ⟨this, by simp [M.insP, this]⟩
            go_enter Try.func11, Try.ntmps11
            go_wp2_with (first
              | (go_at_call 21; refine (hcov _).mono ?_; rintro e w3 ⟨rfl, b3⟩; have I3 := hid ((IB.start w p _ k v m).bel b3); clear b3; obtain ⟨e0, e1, e2, e3, e4, e5, f0, f1, f2⟩ := I3.out.cells)
              | (go_at_call 24; refine (HF.out _ I3.out.below).mono ?_; rintro e w4 ⟨rfl, b4⟩; have I4 := hid (I3.out.bel b4); clear b4; obtain ⟨g0, g1, g2, g3, g4, g5, j0, j1, j2⟩ := I4.out.cells))
            refine wp_normal ?_
            refine region_until (S := fun W : World => IB w W p (.slice (some ⟨b, off, none⟩) p.es.length cap) k v m) (m := 4) (by kernel_rfl) ?_
            have I5 := hid (I4.out.bel (Bel.dr (Below.refl _ _)))
            clear g0 g1 g2 g3 g4 g5 j0 j1 j2 e0 e1 e2 e3 e4 e5 f0 f1 f2 I3 I4
            generalize w4.drew = w5 at *
            refine take_next (i := 0) (.agg #[.int .i64 p.lsn, .int .i64 p.kind, .int .i64 p.level, .int .i64 p.right, .string (M.bs p.high), .slice (some ⟨b, off, none⟩) p.es.length cap]) [1, 4] (by kernel_rfl) (by kernel_rfl) rfl (by kernel_rfl) (by kernel_rfl) (by kernel_rfl) (by kernel_rfl) (fun _ _ _ h => absurd h.1 (by simp)) (Or.inl ⟨by rfl, fun w' hSw => by obtain ⟨e0, e1, e2, e3, e4, e5, f0, f1, f2⟩ := hSw.cells; go_simp⟩) I5.out ?_
            try simp only [Act.put]
            refine take_next (i := 2) (.agg #[.string (M.bs k), .string (M.bs v), .bool m]) [3, 4] (by kernel_rfl) (by kernel_rfl) rfl (by kernel_rfl) (by kernel_rfl) (by kernel_rfl) (by kernel_rfl) (fun _ _ _ h => absurd h.1 (by simp)) (Or.inl ⟨by rfl, fun w' hSw => by obtain ⟨e0, e1, e2, e3, e4, e5, f0, f1, f2⟩ := hSw.cells; go_simp⟩) I5.out ?_
            try simp only [Act.put]
            refine until_ready (rs := [1]) (by kernel_rfl) (by simp) ?_
            intro jj hjj
            simp only [List.mem_cons, List.not_mem_nil, or_false] at hjj
            subst hjj
            refine wpOp_step rfl (fun KX hKX => ?_)
            have HX := hid hKX
            clear hKX
            go_simp
            refine (HFR.out _ I5.out.below).mono ?_
            rintro e w6 ⟨rfl, b6⟩
            have I6 := hid (I5.out.bel b6)
            refine HX.out _ _ ⟨fun _ => I6.out, ?_⟩
            clear HX b6 I5
            try simp only [Act.put]
            refine until_ready (rs := [3]) (by kernel_rfl) (by simp) ?_
            intro jj hjj
            simp only [List.mem_cons, List.not_mem_nil, or_false] at hjj
            subst hjj
            refine wpOp_step rfl (fun KX hKX => ?_)
            have HX := hid hKX
            clear hKX
            go_simp
            refine (hsize _).mono ?_
            rintro e w7 ⟨rfl, b7⟩
            have I7 := hid (I6.out.bel b7)
            refine HX.out _ _ ⟨fun _ => I7.out, ?_⟩
            clear HX b7 I6
            try simp only [Act.put]
            refine until_ready (rs := [4]) (by kernel_rfl) (by simp) ?_
            intro jj hjj
            simp only [List.mem_cons, List.not_mem_nil, or_false] at hjj
            subst hjj
            refine wpOp_step rfl (fun KX hKX => ?_)
            have HX := hid hKX
            clear hKX
            go_simp
            refine HX.out _ _ ⟨fun _ => I7.out, ?_⟩
            clear HX
            refine until_done (by kernel_rfl) ⟨rfl, ?_⟩ _
            obtain ⟨d0, d1, d2, d3, d4, d5, df⟩ := I7.out.out
            have df0 := df 0
            have df1 := df 1
            have df2 := df 2
            have df3 := df 3
            have df4 := df 4
            have df5 := df 5
            clear df
            go_wp2_with fail
            refine bodyPost_ret (results_cell_row2 (p := 4) (ty := 30) (u := 5) rfl _ _ (w.heap.size + 1 + 1) _ rfl (load30 (cs := noC) (set6 I7.out.b2 _ _ _ _ _ _) rfl)) rfl ?_
            exact ⟨.slice none 0 0, by rw [HE.out.1, HE.out.2]; rfl, by rw [HE.out.2]; exact World.ownsRow_nil _ _ _ _, bel6 I7.out.below (by omega) _ _ _ _ _ _⟩
          · have HE : Hid (M.insE p (k, v, m) = 0 ∧ M.insP p (k, v, m) = { p with es := M.set M.cfS p.es k (v, m) }) := by
              have : M.insE p (k, v, m) = 0 := by simp [M.insE, h1, h2, hc, hh, h5]
              exact ⟨this, by simp [M.insP, this]⟩
            go_enter Try.func11, Try.ntmps11
            go_wp2_with (first
              | (go_at_call 21; refine (hcov _).mono ?_; rintro e w3 ⟨rfl, b3⟩; have I3 := hid ((IB.start w p _ k v m).bel b3); clear b3; obtain ⟨e0, e1, e2, e3, e4, e5, f0, f1, f2⟩ := I3.out.cells)
              | (go_at_call 24; refine (HF.out _ I3.out.below).mono ?_; rintro e w4 ⟨rfl, b4⟩; have I4 := hid (I3.out.bel b4); clear b4; obtain ⟨g0, g1, g2, g3, g4, g5, j0, j1, j2⟩ := I4.out.cells))
            refine wp_normal ?_
            refine region_until (S := fun W : World => IB w W p (.slice (some ⟨b, off, none⟩) p.es.length cap) k v m) (m := 4) (by kernel_rfl) ?_
            have I5 := hid (I4.out.bel (Bel.dr (Below.refl _ _)))
            clear g0 g1 g2 g3 g4 g5 j0 j1 j2 e0 e1 e2 e3 e4 e5 f0 f1 f2 I3 I4
            generalize w4.drew = w5 at *
            refine take_next (i := 0) (.agg #[.int .i64 p.lsn, .int .i64 p.kind, .int .i64 p.level, .int .i64 p.right, .string (M.bs p.high), .slice (some ⟨b, off, none⟩) p.es.length cap]) [1, 4] (by kernel_rfl) (by kernel_rfl) rfl (by kernel_rfl) (by kernel_rfl) (by kernel_rfl) (by kernel_rfl) (fun _ _ _ h => absurd h.1 (by simp)) (Or.inl ⟨by rfl, fun w' hSw => by obtain ⟨e0, e1, e2, e3, e4, e5, f0, f1, f2⟩ := hSw.cells; go_simp⟩) I5.out ?_
            try simp only [Act.put]
            refine take_next (i := 2) (.agg #[.string (M.bs k), .string (M.bs v), .bool m]) [3, 4] (by kernel_rfl) (by kernel_rfl) rfl (by kernel_rfl) (by kernel_rfl) (by kernel_rfl) (by kernel_rfl) (fun _ _ _ h => absurd h.1 (by simp)) (Or.inl ⟨by rfl, fun w' hSw => by obtain ⟨e0, e1, e2, e3, e4, e5, f0, f1, f2⟩ := hSw.cells; go_simp⟩) I5.out ?_
            try simp only [Act.put]
            refine until_ready (rs := [1]) (by kernel_rfl) (by simp) ?_
            intro jj hjj
            simp only [List.mem_cons, List.not_mem_nil, or_false] at hjj
            subst hjj
            refine wpOp_step rfl (fun KX hKX => ?_)
            have HX := hid hKX
            clear hKX
            go_simp
            refine (HFR.out _ I5.out.below).mono ?_
            rintro e w6 ⟨rfl, b6⟩
            have I6 := hid (I5.out.bel b6)
            refine HX.out _ _ ⟨fun _ => I6.out, ?_⟩
            clear HX b6 I5
            try simp only [Act.put]
            refine until_ready (rs := [3]) (by kernel_rfl) (by simp) ?_
            intro jj hjj
            simp only [List.mem_cons, List.not_mem_nil, or_false] at hjj
            subst hjj
            refine wpOp_step rfl (fun KX hKX => ?_)
            have HX := hid hKX
            clear hKX
            go_simp
            refine (hsize _).mono ?_
            rintro e w7 ⟨rfl, b7⟩
            have I7 := hid (I6.out.bel b7)
            refine HX.out _ _ ⟨fun _ => I7.out, ?_⟩
            clear HX b7 I6
            try simp only [Act.put]
            refine until_ready (rs := [4]) (by kernel_rfl) (by simp) ?_
            intro jj hjj
            simp only [List.mem_cons, List.not_mem_nil, or_false] at hjj
            subst hjj
            refine wpOp_step rfl (fun KX hKX => ?_)
            have HX := hid hKX
            clear hKX
            go_simp
            refine HX.out _ _ ⟨fun _ => I7.out, ?_⟩
            clear HX
            refine until_done (by kernel_rfl) ⟨rfl, ?_⟩ _
            obtain ⟨pp, hpp⟩ : ∃ pp, pp = M.pos M.cfS p.es k := ⟨_, rfl⟩
            have HSET : Hid (M.set M.cfS p.es k (v, m) = p.es.take pp ++ (k, v, m) :: p.es.drop pp) := by show _ = _; rw [hpp]; exact M.set_new _ _ _ hh
            rw [← hpp] at hps ⊢
            clear hpp
            obtain ⟨e0, e1, e2, e3, e4, e5, f0, f1, f2⟩ := I7.out.cells
            go_wp2_with fail
            refine wp_last fun KL hKL => ?_
            have HL := hid hKL
            clear hKL
            refine region_until (S := fun W : World => IB w W p (.slice (some ⟨b, off, none⟩) p.es.length cap) k v m) (m := 14) (by kernel_rfl) ?_
            have I8 := hid (I7.out.bel (Bel.dr (Below.refl _ _)))
            clear e0 e1 e2 e3 e4 e5 f0 f1 f2 I7
            generalize w7.drew = w8 at *
            have Z8 := hid I8.out.below.size
            obtain ⟨v1, w9, ha1, k9, hv1, v2, w10, ha2, o10, k10⟩ := app_mid (w := w8) rfl hps hcap (Nat.lt_of_lt_of_le hb I8.out.below.size) (hr.below I8.out.below hb) hs.es (k, v, m)
            have cut := fun W => run_cut3 b off p.es.length cap pp hps hcap W
            have rest := fun W => run_rest b off p.es.length cap pp hps hcap W
            generalize (if cap = pp then some (⟨b, off, none⟩ : Addr) else some ⟨b, off + pp * 3, none⟩) = ra at *
            refine take_next (i := 0) (.pointer (some ⟨w.heap.size, 5, none⟩)) [1, 4, 7, 12, 14] (by kernel_rfl) (by kernel_rfl) rfl (by kernel_rfl) (by kernel_rfl) (by kernel_rfl) (by kernel_rfl) (fun _ _ _ h => absurd h.1 (by simp)) (Or.inl ⟨by rfl, fun w' hSw => by obtain ⟨e0, e1, e2, e3, e4, e5, f0, f1, f2⟩ := hSw.cells; go_simp⟩) I8.out ?_
            try simp only [Act.put]
            refine take_next (i := 1) (.slice (some ⟨b, off, none⟩) p.es.length cap) [4, 7, 12, 14] (by kernel_rfl) (by kernel_rfl) rfl (by kernel_rfl) (by kernel_rfl) (by kernel_rfl) (by kernel_rfl) (fun _ _ _ h => absurd h.1 (by simp)) (Or.inl ⟨by rfl, fun w' hSw => by obtain ⟨e0, e1, e2, e3, e4, e5, f0, f1, f2⟩ := hSw.cells; go_simp⟩) I8.out ?_
            try simp only [Act.put]
            refine take_next (i := 2) (.int .i64 (pp : Nat)) [4, 7, 12, 14] (by kernel_rfl) (by kernel_rfl) rfl (by kernel_rfl) (by kernel_rfl) (by kernel_rfl) (by kernel_rfl) (fun _ _ _ h => absurd h.1 (by simp)) (Or.inl ⟨by rfl, fun w' hSw => by obtain ⟨e0, e1, e2, e3, e4, e5, f0, f1, f2⟩ := hSw.cells; go_simp⟩) I8.out ?_
            try simp only [Act.put]
            refine take_next (i := 3) (.int .i64 (pp : Nat)) [4, 7, 12, 14] (by kernel_rfl) (by kernel_rfl) rfl (by kernel_rfl) (by kernel_rfl) (by kernel_rfl) (by kernel_rfl) (fun _ _ _ h => absurd h.1 (by simp)) (Or.inl ⟨by rfl, fun w' hSw => by obtain ⟨e0, e1, e2, e3, e4, e5, f0, f1, f2⟩ := hSw.cells; go_simp⟩) I8.out ?_
            try simp only [Act.put]
            refine take_next (i := 4) (.slice (some ⟨b, off, none⟩) pp pp) [7, 12, 14] (by kernel_rfl) (by kernel_rfl) rfl (by kernel_rfl) (by kernel_rfl) (by kernel_rfl) (by kernel_rfl) (fun _ _ _ h => absurd h.1 (by simp)) (Or.inl ⟨by rfl, fun w' hSw => by obtain ⟨e0, e1, e2, e3, e4, e5, f0, f1, f2⟩ := hSw.cells; go_simp⟩) I8.out ?_
            try simp only [Act.put]
            refine take_next (i := 5) (.agg #[.string (M.bs k), .string (M.bs v), .bool m]) [6, 7, 12, 14] (by kernel_rfl) (by kernel_rfl) rfl (by kernel_rfl) (by kernel_rfl) (by kernel_rfl) (by kernel_rfl) (fun _ _ _ h => absurd h.1 (by simp)) (Or.inl ⟨by rfl, fun w' hSw => by obtain ⟨e0, e1, e2, e3, e4, e5, f0, f1, f2⟩ := hSw.cells; go_simp⟩) I8.out ?_
            try simp only [Act.put]
            refine take_next (i := 8) (.pointer (some ⟨w.heap.size, 5, none⟩)) [9, 11, 12, 14] (by kernel_rfl) (by kernel_rfl) rfl (by kernel_rfl) (by kernel_rfl) (by kernel_rfl) (by kernel_rfl) (fun _ _ _ h => absurd h.1 (by simp)) (Or.inl ⟨by rfl, fun w' hSw => by obtain ⟨e0, e1, e2, e3, e4, e5, f0, f1, f2⟩ := hSw.cells; go_simp⟩) I8.out ?_
            try simp only [Act.put]
            refine take_next (i := 9) (.slice (some ⟨b, off, none⟩) p.es.length cap) [11, 12, 14] (by kernel_rfl) (by kernel_rfl) rfl (by kernel_rfl) (by kernel_rfl) (by kernel_rfl) (by kernel_rfl) (fun _ _ _ h => absurd h.1 (by simp)) (Or.inl ⟨by rfl, fun w' hSw => by obtain ⟨e0, e1, e2, e3, e4, e5, f0, f1, f2⟩ := hSw.cells; go_simp⟩) I8.out ?_
            try simp only [Act.put]
            refine take_next (i := 10) (.int .i64 (pp : Nat)) [11, 12, 14] (by kernel_rfl) (by kernel_rfl) rfl (by kernel_rfl) (by kernel_rfl) (by kernel_rfl) (by kernel_rfl) (fun _ _ _ h => absurd h.1 (by simp)) (Or.inl ⟨by rfl, fun w' hSw => by obtain ⟨e0, e1, e2, e3, e4, e5, f0, f1, f2⟩ := hSw.cells; go_simp⟩) I8.out ?_
            try simp only [Act.put]
            refine take_next (i := 11) (.slice ra (p.es.length - pp) (cap - pp)) [12, 14] (by kernel_rfl) (by kernel_rfl) rfl (by kernel_rfl) (by kernel_rfl) (by kernel_rfl) (by kernel_rfl) (fun _ _ _ h => absurd h.1 (by simp)) (Or.inl ⟨by rfl, fun w' hSw => by obtain ⟨e0, e1, e2, e3, e4, e5, f0, f1, f2⟩ := hSw.cells; go_simp⟩) I8.out ?_
            try simp only [Act.put]
            refine until_ready (rs := [6]) (by kernel_rfl) (by simp) ?_
            intro jj hjj
            simp only [List.mem_cons, List.not_mem_nil, or_false] at hjj
            subst hjj
            refine wpOp_step rfl (fun KX hKX => ?_)
            have HX := hid hKX
            clear hKX
            go_simp
            refine HX.out _ _ ⟨fun _ => I8.out.bel (Bel.al (Below.refl _ _) _), ?_⟩
            clear HX
            try simp only [Act.put]
            refine until_ready (rs := [7]) (by kernel_rfl) (by simp) ?_
            intro jj hjj
            simp only [List.mem_cons, List.not_mem_nil, or_false] at hjj
            subst hjj
            refine wpOp_step rfl (fun KX hKX => ?_)
            have HX := hid hKX
            clear hKX
            refine app_run_step (by rfl) _ _ 28 (by rfl) (by rfl) (by rfl) (by exact ha1) ?_
            refine HX.out _ _ ⟨fun _ => I8.out.bel k9, ?_⟩
            clear HX
            try simp only [Act.put]
            refine until_ready (rs := [12]) (by kernel_rfl) (by simp) ?_
            intro jj hjj
            simp only [List.mem_cons, List.not_mem_nil, or_false] at hjj
            subst hjj
            refine wpOp_step rfl (fun KX hKX => ?_)
            have HX := hid hKX
            clear hKX
            refine app_run_step (by rfl) _ _ 28 (by rfl) (by rfl) (by rfl) (by exact ha2) ?_
            have I10 := hid (I8.out.bel k10)
            refine HX.out _ _ ⟨fun _ => I10.out, ?_⟩
            clear HX ha1 ha2 k9 k10
            try simp only [Act.put]
            refine until_ready (rs := [13]) (by kernel_rfl) (by simp) ?_
            intro jj hjj
            simp only [List.mem_cons, List.not_mem_nil, or_false] at hjj
            subst hjj
            refine wpOp_step rfl (fun KX hKX => ?_)
            have HX := hid hKX
            clear hKX
            go_simp
            refine HX.out _ _ ⟨fun _ => I10.out, ?_⟩
            clear HX
            try simp only [Act.put]
            have O10 := hid o10
            obtain ⟨a10, cap10, rfl⟩ := row_form o10
            have x5 := I10.out.cells.2.2.2.2.2.1
            have xf := I10.out.b0.frozen 5
            clear o10
            refine until_ready (rs := [14]) (by kernel_rfl) (by simp) ?_
            intro jj hjj
            simp only [List.mem_cons, List.not_mem_nil, or_false] at hjj
            subst hjj
            refine wpOp_step rfl (fun KX hKX => ?_)
            have HX := hid hKX
            clear hKX
            go_simp
            refine HX.out _ _ ⟨(fun h => by cases (Eq.trans (Eq.symm (show _ = true by kernel_rfl)) h)), ?_⟩
            clear HX
            refine until_done (by kernel_rfl) ⟨rfl, ?_⟩ _
            refine HL.out _ _ ?_
            clear HL
            have J := hid (I10.out.store (.slice a10 (p.es.length + 1) cap10))
            have OJ := hid (ownsRow_setCell_other (a := ⟨w.heap.size, 5, none⟩) O10.out (fun e => row_ne O10.out I10.out.b0 (by decide) e.symm) (.slice a10 (p.es.length + 1) cap10))
            clear x5 xf I10 O10 I8
            generalize w10.setCell ⟨w.heap.size, 5, none⟩ (.slice a10 (p.es.length + 1) cap10) = w11 at *
            obtain ⟨e0, e1, e2, e3, e4, e5, f0, f1, f2⟩ := J.out.cells
            obtain ⟨d0, d1, d2, d3, d4, d5, df⟩ := J.out.out
            have df0 := df 0
            have df1 := df 1
            have df2 := df 2
            have df3 := df 3
            have df4 := df 4
            have df5 := df 5
            clear df
            go_wp2_with fail
            refine bodyPost_ret (results_cell_row2 (p := 4) (ty := 30) (u := 5) rfl _ _ (w.heap.size + 1 + 1) _ rfl (load30 (cs := #[.int .i64 p.lsn, .int .i64 p.kind, .int .i64 p.level, .int .i64 p.right, .string (M.bs p.high), .slice a10 (p.es.length + 1) cap10]) (set6 J.out.b2 _ _ _ _ _ _) rfl)) rfl ?_
            refine ⟨_, by rw [HE.out.1, HE.out.2]; rfl, ?_, bel6 J.out.below (by omega) _ _ _ _ _ _⟩
            rw [HE.out.2]
            exact own6 (own_base OJ.out Z8.out) (row_ne OJ.out J.out.b2 (by decide)) _ _ _ _ _ _ (by show (M.set M.cfS p.es k (v, m)).length = _; rw [HSET.out]; simp ; omega) (by show csE (M.set M.cfS p.es k (v, m)) = _; rw [HSET.out])
end Go.Proofs.Ytcmplklefeicbaa
