/-
  The law DevicePlays: its done, walked.
-/
import Derived.Test.YtoelaemneoabfaaRQ
namespace Go.Proofs.Ytoelaemneoabfaa
open Go.RowKit
set_option maxRecDepth 100000

theorem seesN_own0 {w : World} {base : Nat} {v : Value} {L : List Int} (h : w.ownsRow base 3 1 v L.length (csN L)) (Y : Nat → Prop) (hY : ∀ g, base ≤ g → g < w.heap.size → Y g) : SeesN Y w v L := by
  rcases h.2 with ⟨rfl, e⟩ | ⟨g, cap, cur, rfl, _⟩
  · exact ⟨none, 0, by rw [e], .inl ⟨rfl, rfl, List.length_eq_zero_iff.1 e⟩⟩
  · refine ⟨_, cap, rfl, .inr ⟨g, 0, rfl, hY g (h.lt g rfl).1 (h.lt g rfl).2, fun j hj => ?_⟩⟩
    rw [Nat.zero_add, h.cellAt j (by omega)]; simp [csN, hj]
theorem Ref.cells345 {Y : Nat → Prop} {w : World} {b : Nat} {R : Rf} (h : Ref Y w b R) : w.cell? ⟨b, 3, none⟩ = some (.bool R.off) ∧ w.cell? ⟨b, 4, none⟩ = some (.int .i64 R.fuse) ∧ (∃ kv, w.cell? ⟨b, 5, none⟩ = some kv) ∧ w.frozen? ⟨b, 3, none⟩ = false ∧ w.frozen? ⟨b, 4, none⟩ = false ∧ w.frozen? ⟨b, 5, none⟩ = false := by
  obtain ⟨lv, av, dv, kv, h⟩ := h
  exact ⟨by rw [h.blk.cell]; rfl, by rw [h.blk.cell]; rfl, ⟨_, by rw [h.blk.cell]; rfl⟩, h.blk.frozen _, h.blk.frozen _, h.blk.frozen _⟩
theorem Ref.fused {Y : Nat → Prop} {w : World} {b b0 base : Nat} {R : Rf} {v : Value} {K : List Int} (h : Ref Y w b R) (n : Int) (ho : w.ownsRow base 3 1 v K.length (csN K)) (_hw : b0 ≤ w.heap.size) (hb : b0 ≤ base) (hY : ∀ j, Y j → j < b0) :
    Ref (fun j => Y j ∨ (b0 ≤ j ∧ j < ((w.setCell ⟨b, 4, none⟩ (.int .i64 n)).setCell ⟨b, 5, none⟩ v).heap.size)) ((w.setCell ⟨b, 4, none⟩ (.int .i64 n)).setCell ⟨b, 5, none⟩ v) b { R with fuse := n, keep := K } ∧ Keep (fun j => j ≠ b) w ((w.setCell ⟨b, 4, none⟩ (.int .i64 n)).setCell ⟨b, 5, none⟩ v) := by
  obtain ⟨lv, av, dv, kv, h⟩ := h
  have k : Keep (fun j => j ≠ b) w ((w.setCell ⟨b, 4, none⟩ (.int .i64 n)).setCell ⟨b, 5, none⟩ v) := ((Keep.refl _ w).set (p := ⟨b, 4, none⟩) (by simp) _).set (p := ⟨b, 5, none⟩) (by simp) _
  have hblk := (h.blk.set 4 (.int .i64 n)).set 5 v
  have hbl := hY b h.yb
  have hn := row_ne ho h.blk (by decide)
  have ho' : ((w.setCell ⟨b, 4, none⟩ (.int .i64 n)).setCell ⟨b, 5, none⟩ v).ownsRow base 3 1 v K.length (csN K) := ownsRow_setCell_other (a := ⟨b, 5, none⟩) (ownsRow_setCell_other (a := ⟨b, 4, none⟩) ho (fun e => hn e.symm) _) (fun e => hn e.symm) _
  generalize (w.setCell ⟨b, 4, none⟩ (.int .i64 n)).setCell ⟨b, 5, none⟩ v = W at *
  have wk : ∀ j, (Y j ∧ j ≠ b) → ((Y j ∨ (b0 ≤ j ∧ j < W.heap.size)) ∧ j ≠ b) := fun j hj => ⟨.inl hj.1, hj.2⟩
  have k' : Keep (fun j => Y j ∧ j ≠ b) w W := k.weak fun _ h => h.2
  exact ⟨⟨lv, av, dv, v, by simpa using hblk, (h.last.keep k').weak wk, (h.at'.keep k').weak wk, (h.data.keep k').weak wk, seesN_own0 ho' _ (fun g h0 h1 => ⟨.inr ⟨by omega, h1⟩, by omega⟩), h.len, .inl h.yb⟩, k⟩
theorem Ref.turned_on {Y : Nat → Prop} {w : World} {b : Nat} {R : Rf} (h : Ref Y w b R) :
    Ref Y (((w.setCell ⟨b, 3, none⟩ (.bool false)).setCell ⟨b, 4, none⟩ (.int .i64 0)).setCell ⟨b, 5, none⟩ (.slice none 0 0)) b (rOn R) ∧ Keep (fun j => j ≠ b) w (((w.setCell ⟨b, 3, none⟩ (.bool false)).setCell ⟨b, 4, none⟩ (.int .i64 0)).setCell ⟨b, 5, none⟩ (.slice none 0 0)) := by
  obtain ⟨lv, av, dv, kv, h⟩ := h
  have k : Keep (fun j => j ≠ b) w (((w.setCell ⟨b, 3, none⟩ (.bool false)).setCell ⟨b, 4, none⟩ (.int .i64 0)).setCell ⟨b, 5, none⟩ (.slice none 0 0)) := (((Keep.refl _ w).set (p := ⟨b, 3, none⟩) (by simp) _).set (p := ⟨b, 4, none⟩) (by simp) _).set (p := ⟨b, 5, none⟩) (by simp) _
  have hblk := ((h.blk.set 3 (.bool false)).set 4 (.int .i64 0)).set 5 (.slice none 0 0)
  generalize ((w.setCell ⟨b, 3, none⟩ (.bool false)).setCell ⟨b, 4, none⟩ (.int .i64 0)).setCell ⟨b, 5, none⟩ (.slice none 0 0) = W at *
  have k' : Keep (fun j => Y j ∧ j ≠ b) w W := k.weak fun _ h => h.2
  exact ⟨⟨lv, av, dv, .slice none 0 0, by simpa [rOn] using hblk, h.last.keep k', h.at'.keep k', h.data.keep k', ⟨none, 0, rfl, .inl ⟨rfl, rfl, rfl⟩⟩, h.len, h.yb⟩, k⟩
set_option maxHeartbeats 8000000 in
theorem done_some (Y : Nat → Prop) (d : Nat) (R : Rf) (N : Nat) (what i : Int) (t : M.Tx) (ka : Addr) (kcap : Nat) (K : List Int) (w : World) (h : Ref Y w d R) (g : GoodR N R) (hN : N + 1 ≤ 1000) (hX : ∀ j, Y j → j < w.heap.size)
    (hk : ReadsN w (.slice (some ka) K.length kcap) K) (hkc : K.length ≤ kcap) (hkm : K.length ≤ maxLen) (_ht : t.length ≤ maxLen) :
    Calls Try.prog 17 #[.pointer (some ⟨d, 0, none⟩), .agg #[.int .i64 what, .int .i64 i, .string (M.bs t), .slice (some ka) K.length kcap]] w fun e w' => e = .returned (.tuple #[.string (M.bs (doRT (kindI what) R i)), .int .i64 (doRE (kindI what) R i (t.take 300))]) ∧ Ref (fun j => Y j ∨ (w.heap.size ≤ j ∧ j < w'.heap.size)) w' d (doR (kindI what) R i (t.take 300) (K.take 9)) ∧ Keep (fun j => j ≠ d ∧ j < w.heap.size) w w' := by
  have hsz : (M.bs t).size = t.length := M.bs_size _
  have ce := cut_eq 300 t
  have e300 : ((300 : Nat) : Int) = 300 := rfl
  rw [e300] at ce
  obtain ⟨nd, hnd, hnd'⟩ : ∃ nd : Nat, min (t.length : Int) 300 = (nd : Int) ∧ nd ≤ t.length := ⟨min t.length 300, by omega, by omega⟩
  rw [hnd, Int.toNat_natCast] at ce
  have hD : (t.take 300).length ≤ 300 := by rw [List.length_take]; omega
  unfold maxLen at *
  generalize t.take 300 = D at *
  have B0 : Bel w (w.alloc (.cells #[.int .i64 what, .int .i64 i, .string (M.bs t), .slice (some ka) K.length kcap] 35)) := Bel.al (Below.refl _ _) _
  obtain ⟨nk, hnk, hnk', hnk9⟩ : ∃ nk : Nat, min (K.length : Int) 9 = (nk : Int) ∧ nk ≤ K.length ∧ nk = min K.length 9 := ⟨min K.length 9, by omega, by omega, rfl⟩
  have HB1 : ReadsN (w.alloc (.cells #[.int .i64 what, .int .i64 i, .string (M.bs t), .slice (some ka) K.length kcap] 35)) (.slice (some ka) K.length kcap) K := by
    obtain ⟨a', cap', e, h⟩ := hk
    refine ⟨a', cap', e, h.imp id ?_⟩
    rintro ⟨g, off, rfl, hc⟩
    exact ⟨g, off, rfl, fun j hj => Lib.cell?_alloc_some _ (hc j hj)⟩
  obtain ⟨v1, w1, ha, o1, k1⟩ := cpK HB1 hnk9
  rw [World.size_alloc] at ha
  have hl9 : (K.take 9).length = nk := by rw [List.length_take]; omega
  have hnkc : nk ≤ kcap := by omega
  clear HB1 hk
  have hK9 : (K.take 9).length ≤ 1000 := by rw [List.length_take]; omega
  generalize K.take 9 = K9 at *
  have HL9 := hid hl9
  clear hnk9 hl9
  obtain ⟨a4, cap4, rfl⟩ := row_form o1
  have c0 := fun (j : Nat) (v : Value) hv => (bel_cell k1 (by simp) j).trans (cell_of (i := j) (u := v) (heap_alloc_new w (.cells #[.int .i64 what, .int .i64 i, .string (M.bs t), .slice (some ka) K.length kcap] 35)) hv)
  have p0 := c0 0 _ rfl
  have p1 := c0 1 _ rfl
  have p2 := c0 2 _ rfl
  have p3 := c0 3 _ rfl
  have O1 := hid o1
  have K1 : Hid (Bel w w1) := B0.trans (k1.mono (by simp))
  have hkind : ∀ W, Calls Try.prog 11 #[.agg #[.int .i64 what, .int .i64 i, .string (M.bs t), .slice (some ka) K.length kcap]] W fun e w' => e = .returned (.int .i64 (kindI what)) ∧ Bel W w' := fun W => kind_any _ _ _ _ _ _ _ rfl W
  generalize kindI what = k at *
  clear c0 B0 k1 o1
  go_enter Try.func17, Try.ntmps17
  go_wp2_with (at_builtin; refine appL rfl _ _ rfl rfl rfl ha ?_)
  refine (hkind _).mono ?_
  rintro e w2 ⟨rfl, k2⟩
  have B2 : Hid (Bel w w2) := K1.out.tr k2
  have O2' := own_kept O1.out k2
  simp only [World.size_alloc] at O2'
  have O2 := hid O2'
  clear O2'
  have q1 := (bel_cell k2 (block_lt_of_cell p1) 1).trans p1
  have q2 := (bel_cell k2 (block_lt_of_cell p2) 2).trans p2
  simp at q1 q2
  clear p0 p1 p2 p3 K1 O1 k2
  clear ha hnk hnk' hnkc hkc hkm
  obtain rfl := HL9.out
  have H2 : Hid (Ref Y w2 d R) := by
    obtain ⟨lv, av, dv, kv, h⟩ := h
    exact ⟨lv, av, dv, kv, h.kept (Keep.of_bel B2.out hX)⟩
  have hX2 : ∀ j, Y j → j < w2.heap.size := fun j hj => Nat.lt_of_lt_of_le (hX j hj) B2.out.size
  clear h hkind
  by_cases h3 : k = 3
  · have HB : Hid (doRT k R i = rRead R i ∧ doRE k R i D = rCheck R i ∧ doR k R i D K9 = R) := by subst h3; exact ⟨rfl, rfl, rfl⟩
    subst h3
    obtain ⟨lv, av, dv, qv, hr⟩ := id H2.out
    have HC := hid (rRead_any Y d R lv av dv qv i w2 hr (by have := g.wait; have := g.n; omega))
    clear hr
    go_wp2_with (go_at_call 32; refine HC.out.mono ?_; rintro e w9 ⟨rfl, rfl⟩)
    go_ret2
    exact ⟨by rw [HB.out.1, HB.out.2.1]; rfl, by rw [HB.out.2.2]; exact H2.out.weak fun _ h => .inl h, Keep.of_bel B2.out (fun _ h => h.2)⟩
  · have n3 : (k == 3) = false := by simpa using h3
    by_cases h4 : k = 4
    · have HB : Hid (doRT k R i = [] ∧ doRE k R i D = rSyncE R ∧ doR k R i D K9 = rSync R) := by subst h4; exact ⟨rfl, rfl, rfl⟩
      subst h4
      have HC := hid (rSync_any Y d R N w2 H2.out g hN hX2)
      go_wp2_with (go_at_call 33; refine HC.out.mono ?_; rintro e w9 ⟨rfl, h9, k9⟩; have H9 := hid h9; have K9' := hid k9; clear h9 k9)
      go_ret2
      exact ⟨by rw [HB.out.1, HB.out.2.1]; rfl, by rw [HB.out.2.2]; exact H9.out.weak fun j hj => hj.imp id (fun h => ⟨by have := B2.out.size; omega, h.2⟩), (Keep.of_bel B2.out (fun _ h => h.2)).tr (K9'.out.weak fun j hj => ⟨hj.1, by have := B2.out.size; omega⟩)⟩
    · have n4 : (k == 4) = false := by simpa using h4
      by_cases h5 : k = 5
      · have HB : Hid (doRT k R i = [] ∧ doRE k R i D = 0 ∧ doR k R i D K9 = rFuse R i K9) := by subst h5; exact ⟨rfl, rfl, rfl⟩
        subst h5
        obtain ⟨c3, c4, ⟨kv5, c5⟩, f3, f4, f5⟩ := H2.out.cells345
        cases ho : R.off with
        | true =>
          replace HB : Hid (_ ∧ _ ∧ doR 5 R i D K9 = R) := ⟨HB.out.1, HB.out.2.1, HB.out.2.2.trans (by rw [rFuse, if_pos ho])⟩
          rw [ho] at c3
          clear c4 c5 f3 f4 f5
          go_wp2_with fail
          go_ret2
          exact ⟨by rw [HB.out.1, HB.out.2.1]; rfl, by rw [HB.out.2.2]; exact H2.out.weak fun _ h => .inl h, Keep.of_bel B2.out (fun _ h => h.2)⟩
        | false =>
          replace HB : Hid (_ ∧ _ ∧ doR 5 R i D K9 = { R with fuse := max i 1, keep := K9 }) := ⟨HB.out.1, HB.out.2.1, HB.out.2.2.trans (by rw [rFuse, if_neg (by simp [ho])])⟩
          have HF := hid (H2.out.fused (b0 := w.heap.size) (max i 1) O2.out B2.out.size (Nat.le_succ _) hX)
          rw [ho] at c3
          go_wp2_with fail
          go_ret2
          exact ⟨by rw [HB.out.1, HB.out.2.1]; rfl, by rw [HB.out.2.2]; exact HF.out.1, (Keep.of_bel B2.out (fun _ h => h.2)).tr (HF.out.2.weak fun _ h => h.1)⟩
      · have n5 : (k == 5) = false := by simpa using h5
        by_cases h6 : k = 6
        · have HB : Hid (doRT k R i = [] ∧ doRE k R i D = 0 ∧ doR k R i D K9 = rBlow R K9) := by subst h6; exact ⟨rfl, rfl, rfl⟩
          subst h6
          obtain ⟨c3, c4, ⟨kv5, c5⟩, f3, f4, f5⟩ := H2.out.cells345
          cases ho : R.off with
          | true =>
            replace HB : Hid (_ ∧ _ ∧ doR 6 R i D K9 = R) := ⟨HB.out.1, HB.out.2.1, HB.out.2.2.trans (by rw [rBlow, if_pos ho])⟩
            rw [ho] at c3
            clear c4 c5 f3 f4 f5
            go_wp2_with fail
            go_ret2
            exact ⟨by rw [HB.out.1, HB.out.2.1]; rfl, by rw [HB.out.2.2]; exact H2.out.weak fun _ h => .inl h, Keep.of_bel B2.out (fun _ h => h.2)⟩
          | false =>
            replace HB : Hid (_ ∧ _ ∧ doR 6 R i D K9 = rFail R K9) := ⟨HB.out.1, HB.out.2.1, HB.out.2.2.trans (by rw [rBlow, if_neg (by simp [ho])])⟩
            rw [ho] at c3
            clear c4 c5 f3 f4 f5
            have HC := hid (rFail_any Y d R N K9 _ w2 H2.out g (readsN_of (row_base O2.out).1) hK9)
            go_wp2_with (go_at_call 34; refine HC.out.mono ?_; rintro e w9 ⟨rfl, h9, k9⟩; have H9 := hid h9; have K9' := hid k9; clear h9 k9)
            go_ret2
            exact ⟨by rw [HB.out.1, HB.out.2.1]; rfl, by rw [HB.out.2.2]; exact H9.out.weak fun j hj => hj.imp id (fun h => ⟨by have := B2.out.size; omega, h.2⟩), (Keep.of_bel B2.out (fun _ h => h.2)).tr (K9'.out.weak fun j hj => ⟨hj.1, by have := B2.out.size; omega⟩)⟩
        · have n6 : (k == 6) = false := by simpa using h6
          by_cases h7 : k = 7
          · have HB : Hid (doRT k R i = [] ∧ doRE k R i D = 0 ∧ doR k R i D K9 = rOn R) := by subst h7; exact ⟨rfl, rfl, rfl⟩
            subst h7
            obtain ⟨c3, c4, ⟨kv5, c5⟩, f3, f4, f5⟩ := H2.out.cells345
            have HF := hid H2.out.turned_on
            go_wp2_with fail
            go_ret2
            exact ⟨by rw [HB.out.1, HB.out.2.1]; rfl, by rw [HB.out.2.2]; exact HF.out.1.weak fun _ h => .inl h, (Keep.of_bel B2.out (fun _ h => h.2)).tr (HF.out.2.weak fun _ h => h.1)⟩
          · have n7 : (k == 7) = false := by simpa using h7
            by_cases h8 : k = 8
            · have HB : Hid (doRT k R i = [] ∧ doRE k R i D = 0 ∧ doR k R i D K9 = R) := by subst h8; exact ⟨rfl, rfl, rfl⟩
              subst h8
              go_wp2_with fail
              go_ret2
              exact ⟨by rw [HB.out.1, HB.out.2.1]; rfl, by rw [HB.out.2.2]; exact H2.out.weak fun _ h => .inl h, Keep.of_bel B2.out (fun _ h => h.2)⟩
            · have n8 : (k == 8) = false := by simpa using h8
              have HB : Hid (doRT k R i = [] ∧ doRE k R i D = rWriteE R i D ∧ doR k R i D K9 = rWrite R i D) := ⟨by simp [doRT, h3], by simp [doRE, h3, h4, h5, h6, h7, h8], by simp [doR, h3, h4, h5, h6, h7, h8]⟩
              have HC := hid (rWrite_any Y d R N i D w2 H2.out g hN hX2)
              go_wp2_with (go_at_call 35; refine HC.out.mono ?_; rintro e w9 ⟨rfl, h9, k9⟩; have H9 := hid h9; have K9' := hid k9; clear h9 k9)
              go_ret2
              exact ⟨by rw [HB.out.1, HB.out.2.1]; rfl, by rw [HB.out.2.2]; exact H9.out.weak fun j hj => hj.imp id (fun h => ⟨by have := B2.out.size; omega, h.2⟩), (Keep.of_bel B2.out (fun _ h => h.2)).tr (K9'.out.weak fun j hj => ⟨hj.1, by have := B2.out.size; omega⟩)⟩
set_option maxHeartbeats 8000000 in
theorem done_none (Y : Nat → Prop) (d : Nat) (R : Rf) (N : Nat) (what i : Int) (t : M.Tx) (kcap : Nat) (K : List Int) (w : World) (h : Ref Y w d R) (g : GoodR N R) (hN : N + 1 ≤ 1000) (hX : ∀ j, Y j → j < w.heap.size)
    (hK0 : K = []) (_ht : t.length ≤ maxLen) :
    Calls Try.prog 17 #[.pointer (some ⟨d, 0, none⟩), .agg #[.int .i64 what, .int .i64 i, .string (M.bs t), .slice none 0 kcap]] w fun e w' => e = .returned (.tuple #[.string (M.bs (doRT (kindI what) R i)), .int .i64 (doRE (kindI what) R i (t.take 300))]) ∧ Ref (fun j => Y j ∨ (w.heap.size ≤ j ∧ j < w'.heap.size)) w' d (doR (kindI what) R i (t.take 300) (K.take 9)) ∧ Keep (fun j => j ≠ d ∧ j < w.heap.size) w w' := by
  have hsz : (M.bs t).size = t.length := M.bs_size _
  have ce := cut_eq 300 t
  have e300 : ((300 : Nat) : Int) = 300 := rfl
  rw [e300] at ce
  obtain ⟨nd, hnd, hnd'⟩ : ∃ nd : Nat, min (t.length : Int) 300 = (nd : Int) ∧ nd ≤ t.length := ⟨min t.length 300, by omega, by omega⟩
  rw [hnd, Int.toNat_natCast] at ce
  have hD : (t.take 300).length ≤ 300 := by rw [List.length_take]; omega
  unfold maxLen at *
  generalize t.take 300 = D at *
  have B0 : Bel w (w.alloc (.cells #[.int .i64 what, .int .i64 i, .string (M.bs t), .slice none 0 kcap] 35)) := Bel.al (Below.refl _ _) _
  subst hK0
  have hm9 : min (0 : Int) 9 = ((0 : Nat) : Int) := rfl
  have hl9 : (([] : List Int).take 9).length = 0 := rfl
  have o1 : ((w.alloc (.cells #[.int .i64 what, .int .i64 i, .string (M.bs t), .slice none 0 kcap] 35)).alloc (.cells #[] 3)).ownsRow (w.alloc (.cells #[.int .i64 what, .int .i64 i, .string (M.bs t), .slice none 0 kcap] 35)).heap.size 3 1 (.slice (some ⟨(w.alloc (.cells #[.int .i64 what, .int .i64 i, .string (M.bs t), .slice none 0 kcap] 35)).heap.size, 0, none⟩) 0 0) 0 (csN (([] : List Int).take 9)) := World.ownsRow_made _ #[] 0 (Nat.le_refl _) (Nat.zero_le _) (by simp)
  have k1 : Bel (w.alloc (.cells #[.int .i64 what, .int .i64 i, .string (M.bs t), .slice none 0 kcap] 35)) ((w.alloc (.cells #[.int .i64 what, .int .i64 i, .string (M.bs t), .slice none 0 kcap] 35)).alloc (.cells #[] 3)) := Bel.al (Below.refl _ _) _
  generalize ([] : List Int).take 9 = K9 at *
  have c0 := fun (j : Nat) (v : Value) hv => (bel_cell k1 (by simp) j).trans (cell_of (i := j) (u := v) (heap_alloc_new w (.cells #[.int .i64 what, .int .i64 i, .string (M.bs t), .slice none 0 kcap] 35)) hv)
  have p0 := c0 0 _ rfl
  have p1 := c0 1 _ rfl
  have p2 := c0 2 _ rfl
  have p3 := c0 3 _ rfl
  have O1 := hid o1
  have K1 : Hid (Bel w ((w.alloc (.cells #[.int .i64 what, .int .i64 i, .string (M.bs t), .slice none 0 kcap] 35)).alloc (.cells #[] 3))) := B0.trans (k1.mono (by simp))
  have hkind : ∀ W, Calls Try.prog 11 #[.agg #[.int .i64 what, .int .i64 i, .string (M.bs t), .slice none 0 kcap]] W fun e w' => e = .returned (.int .i64 (kindI what)) ∧ Bel W w' := fun W => kind_any _ _ _ _ _ _ _ rfl W
  generalize kindI what = k at *
  clear c0 B0 k1 o1
  go_enter Try.func17, Try.ntmps17
  go_wp2_with fail
  refine (hkind _).mono ?_
  rintro e w2 ⟨rfl, k2⟩
  have B2 : Hid (Bel w w2) := K1.out.tr k2
  have O2 := hid (own_kept O1.out k2)
  have q1 := (bel_cell k2 (block_lt_of_cell p1) 1).trans p1
  have q2 := (bel_cell k2 (block_lt_of_cell p2) 2).trans p2
  simp at q1 q2
  clear p0 p1 p2 p3 K1 O1 k2
  clear hm9
  replace O2 := O2.out
  obtain rfl : K9 = [] := List.length_eq_zero_iff.1 hl9
  simp only [World.size_alloc] at O2
  replace O2 := hid O2
  have hK9 : ([] : List Int).length ≤ 1000 := by simp
  have H2 : Hid (Ref Y w2 d R) := by
    obtain ⟨lv, av, dv, kv, h⟩ := h
    exact ⟨lv, av, dv, kv, h.kept (Keep.of_bel B2.out hX)⟩
  have hX2 : ∀ j, Y j → j < w2.heap.size := fun j hj => Nat.lt_of_lt_of_le (hX j hj) B2.out.size
  clear h hkind
  by_cases h3 : k = 3
  · have HB : Hid (doRT k R i = rRead R i ∧ doRE k R i D = rCheck R i ∧ doR k R i D [] = R) := by subst h3; exact ⟨rfl, rfl, rfl⟩
    subst h3
    obtain ⟨lv, av, dv, qv, hr⟩ := id H2.out
    have HC := hid (rRead_any Y d R lv av dv qv i w2 hr (by have := g.wait; have := g.n; omega))
    clear hr
    go_wp2_with (go_at_call 32; refine HC.out.mono ?_; rintro e w9 ⟨rfl, rfl⟩)
    go_ret2
    exact ⟨by rw [HB.out.1, HB.out.2.1]; rfl, by rw [HB.out.2.2]; exact H2.out.weak fun _ h => .inl h, Keep.of_bel B2.out (fun _ h => h.2)⟩
  · have n3 : (k == 3) = false := by simpa using h3
    by_cases h4 : k = 4
    · have HB : Hid (doRT k R i = [] ∧ doRE k R i D = rSyncE R ∧ doR k R i D [] = rSync R) := by subst h4; exact ⟨rfl, rfl, rfl⟩
      subst h4
      have HC := hid (rSync_any Y d R N w2 H2.out g hN hX2)
      go_wp2_with (go_at_call 33; refine HC.out.mono ?_; rintro e w9 ⟨rfl, h9, k9⟩; have H9 := hid h9; have K9' := hid k9; clear h9 k9)
      go_ret2
      exact ⟨by rw [HB.out.1, HB.out.2.1]; rfl, by rw [HB.out.2.2]; exact H9.out.weak fun j hj => hj.imp id (fun h => ⟨by have := B2.out.size; omega, h.2⟩), (Keep.of_bel B2.out (fun _ h => h.2)).tr (K9'.out.weak fun j hj => ⟨hj.1, by have := B2.out.size; omega⟩)⟩
    · have n4 : (k == 4) = false := by simpa using h4
      by_cases h5 : k = 5
      · have HB : Hid (doRT k R i = [] ∧ doRE k R i D = 0 ∧ doR k R i D [] = rFuse R i []) := by subst h5; exact ⟨rfl, rfl, rfl⟩
        subst h5
        obtain ⟨c3, c4, ⟨kv5, c5⟩, f3, f4, f5⟩ := H2.out.cells345
        cases ho : R.off with
        | true =>
          replace HB : Hid (_ ∧ _ ∧ doR 5 R i D [] = R) := ⟨HB.out.1, HB.out.2.1, HB.out.2.2.trans (by rw [rFuse, if_pos ho])⟩
          rw [ho] at c3
          clear c4 c5 f3 f4 f5
          go_wp2_with fail
          go_ret2
          exact ⟨by rw [HB.out.1, HB.out.2.1]; rfl, by rw [HB.out.2.2]; exact H2.out.weak fun _ h => .inl h, Keep.of_bel B2.out (fun _ h => h.2)⟩
        | false =>
          replace HB : Hid (_ ∧ _ ∧ doR 5 R i D [] = { R with fuse := max i 1, keep := [] }) := ⟨HB.out.1, HB.out.2.1, HB.out.2.2.trans (by rw [rFuse, if_neg (by simp [ho])])⟩
          have HF := hid (H2.out.fused (b0 := w.heap.size) (max i 1) O2.out B2.out.size (Nat.le_succ _) hX)
          rw [ho] at c3
          go_wp2_with fail
          go_ret2
          exact ⟨by rw [HB.out.1, HB.out.2.1]; rfl, by rw [HB.out.2.2]; exact HF.out.1, (Keep.of_bel B2.out (fun _ h => h.2)).tr (HF.out.2.weak fun _ h => h.1)⟩
      · have n5 : (k == 5) = false := by simpa using h5
        by_cases h6 : k = 6
        · have HB : Hid (doRT k R i = [] ∧ doRE k R i D = 0 ∧ doR k R i D [] = rBlow R []) := by subst h6; exact ⟨rfl, rfl, rfl⟩
          subst h6
          obtain ⟨c3, c4, ⟨kv5, c5⟩, f3, f4, f5⟩ := H2.out.cells345
          cases ho : R.off with
          | true =>
            replace HB : Hid (_ ∧ _ ∧ doR 6 R i D [] = R) := ⟨HB.out.1, HB.out.2.1, HB.out.2.2.trans (by rw [rBlow, if_pos ho])⟩
            rw [ho] at c3
            clear c4 c5 f3 f4 f5
            go_wp2_with fail
            go_ret2
            exact ⟨by rw [HB.out.1, HB.out.2.1]; rfl, by rw [HB.out.2.2]; exact H2.out.weak fun _ h => .inl h, Keep.of_bel B2.out (fun _ h => h.2)⟩
          | false =>
            replace HB : Hid (_ ∧ _ ∧ doR 6 R i D [] = rFail R []) := ⟨HB.out.1, HB.out.2.1, HB.out.2.2.trans (by rw [rBlow, if_neg (by simp [ho])])⟩
            rw [ho] at c3
            clear c4 c5 f3 f4 f5
            have HC := hid (rFail_any Y d R N [] _ w2 H2.out g (readsN_of (row_base O2.out).1) hK9)
            go_wp2_with (go_at_call 34; refine HC.out.mono ?_; rintro e w9 ⟨rfl, h9, k9⟩; have H9 := hid h9; have K9' := hid k9; clear h9 k9)
            go_ret2
            exact ⟨by rw [HB.out.1, HB.out.2.1]; rfl, by rw [HB.out.2.2]; exact H9.out.weak fun j hj => hj.imp id (fun h => ⟨by have := B2.out.size; omega, h.2⟩), (Keep.of_bel B2.out (fun _ h => h.2)).tr (K9'.out.weak fun j hj => ⟨hj.1, by have := B2.out.size; omega⟩)⟩
        · have n6 : (k == 6) = false := by simpa using h6
          by_cases h7 : k = 7
          · have HB : Hid (doRT k R i = [] ∧ doRE k R i D = 0 ∧ doR k R i D [] = rOn R) := by subst h7; exact ⟨rfl, rfl, rfl⟩
            subst h7
            obtain ⟨c3, c4, ⟨kv5, c5⟩, f3, f4, f5⟩ := H2.out.cells345
            have HF := hid H2.out.turned_on
            go_wp2_with fail
            go_ret2
            exact ⟨by rw [HB.out.1, HB.out.2.1]; rfl, by rw [HB.out.2.2]; exact HF.out.1.weak fun _ h => .inl h, (Keep.of_bel B2.out (fun _ h => h.2)).tr (HF.out.2.weak fun _ h => h.1)⟩
          · have n7 : (k == 7) = false := by simpa using h7
            by_cases h8 : k = 8
            · have HB : Hid (doRT k R i = [] ∧ doRE k R i D = 0 ∧ doR k R i D [] = R) := by subst h8; exact ⟨rfl, rfl, rfl⟩
              subst h8
              go_wp2_with fail
              go_ret2
              exact ⟨by rw [HB.out.1, HB.out.2.1]; rfl, by rw [HB.out.2.2]; exact H2.out.weak fun _ h => .inl h, Keep.of_bel B2.out (fun _ h => h.2)⟩
            · have n8 : (k == 8) = false := by simpa using h8
              have HB : Hid (doRT k R i = [] ∧ doRE k R i D = rWriteE R i D ∧ doR k R i D [] = rWrite R i D) := ⟨by simp [doRT, h3], by simp [doRE, h3, h4, h5, h6, h7, h8], by simp [doR, h3, h4, h5, h6, h7, h8]⟩
              have HC := hid (rWrite_any Y d R N i D w2 H2.out g hN hX2)
              go_wp2_with (go_at_call 35; refine HC.out.mono ?_; rintro e w9 ⟨rfl, h9, k9⟩; have H9 := hid h9; have K9' := hid k9; clear h9 k9)
              go_ret2
              exact ⟨by rw [HB.out.1, HB.out.2.1]; rfl, by rw [HB.out.2.2]; exact H9.out.weak fun j hj => hj.imp id (fun h => ⟨by have := B2.out.size; omega, h.2⟩), (Keep.of_bel B2.out (fun _ h => h.2)).tr (K9'.out.weak fun j hj => ⟨hj.1, by have := B2.out.size; omega⟩)⟩
end Go.Proofs.Ytoelaemneoabfaa
