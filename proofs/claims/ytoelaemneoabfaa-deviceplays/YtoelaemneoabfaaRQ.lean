/-
  The law DevicePlays: its do, walked.
-/
import Derived.Test.YtoelaemneoabfaaRP
namespace Go.Proofs.Ytoelaemneoabfaa
open Go.RowKit
set_option maxRecDepth 100000

def doS (k : Int) (S : St) (i : Int) (t : M.Tx) (K : List Int) : St := if k = 3 then S else if k = 4 then sync S else if k = 5 then fuse S i K else if k = 6 then blow S K else if k = 7 then on S else if k = 8 then S else write S i t
def doT (k : Int) (S : St) (i : Int) : M.Tx := if k = 3 then read S i else []
def doE (k : Int) (S : St) (i : Int) (t : M.Tx) : Int := if k = 3 then check S i else if k = 4 then syncE S else if k = 5 then 0 else if k = 6 then 0 else if k = 7 then 0 else if k = 8 then 0 else writeE S i t
def doR (k : Int) (R : Rf) (i : Int) (t : M.Tx) (K : List Int) : Rf := if k = 3 then R else if k = 4 then rSync R else if k = 5 then rFuse R i K else if k = 6 then rBlow R K else if k = 7 then rOn R else if k = 8 then R else rWrite R i t
def doRT (k : Int) (R : Rf) (i : Int) : M.Tx := if k = 3 then rRead R i else []
def doRE (k : Int) (R : Rf) (i : Int) (t : M.Tx) : Int := if k = 3 then rCheck R i else if k = 4 then rSyncE R else if k = 5 then 0 else if k = 6 then 0 else if k = 7 then 0 else if k = 8 then 0 else rWriteE R i t
theorem kindI_range (x : Int) : 0 ≤ kindI x ∧ kindI x ≤ 8 := by
  have h1 : -9 < Int.tmod x 9 := Int.lt_tmod_of_pos x (by omega)
  have h2 : Int.tmod x 9 < 9 := Int.tmod_lt_of_pos x (by omega)
  unfold kindI
  omega
/-- What a list of numbers of an act gives, cut and copied. -/
theorem cpK {w : World} {ka : Addr} {K : List Int} {kcap nk : Nat} (h : ReadsN w (.slice (some ka) K.length kcap) K) (hn : nk = min K.length 9) :
    ∃ v' w', (Builtin.append_ #[29, 29] 29 #[.slice (some ⟨w.heap.size, 0, none⟩) 0 0, .slice (some ka) nk kcap]).run Try.prog (w.alloc (.cells #[] 3)) = .ok v' w' ∧ w'.ownsRow w.heap.size 3 1 v' nk (csN (K.take 9)) ∧ Bel w w' := by
  obtain ⟨i0, hi, hz0, hz1, hz2⟩ := info_parts info3
  have hown : (w.alloc (.cells #[] 3)).ownsRow w.heap.size 3 1 (.slice (some ⟨w.heap.size, 0, none⟩) 0 0) 0 [] := World.ownsRow_made w #[] 0 (Nat.le_refl _) (Nat.zero_le _) (by simp)
  have hA : Bel w (w.alloc (.cells #[] 3)) := Bel.al (Below.refl _ _) _
  have hl : (K.take 9).length = nk := by rw [List.length_take]; omega
  have hc : ∀ j u, (csN (K.take 9))[j]? = some u → w.cell? (ka.add j) = some u := by
    obtain ⟨a', cap', e, h⟩ := h
    cases e
    rcases h with rfl | ⟨g, off, e, hr⟩
    · intro j u hj; simp [csN] at hj
    · cases e
      intro j u hj
      have hj2 : (csN K)[j]? = some u := by
        have : csN (K.take 9) = (csN K).take 9 := by simp [csN, List.map_take]
        rw [this, List.getElem?_take] at hj
        split at hj
        · exact hj
        · cases hj
      rw [add_lit]
      exact cellsN hr j u hj2
  obtain ⟨v', w', h1, h2, h3, _, h4⟩ := run_append_own_at (P := Try.prog) _ w.heap.size 29 29 3 i0 _ 1 8 Try.underlying29 hi hz0 hz1 hz2 rfl (by decide) _ 0 [] hown ka nk kcap (csN (K.take 9)) (by rw [csN_length, hl]) (fun j u hj => Lib.cell?_alloc_some _ (hc j u hj)) (csN_one _) (by unfold maxLen; omega) (by omega) (by simp)
  rw [Nat.zero_add, List.nil_append] at h2
  exact ⟨v', w', h1, h2, hA.grown h3 (by simp) (by intro k hk; simp [Value.ownBlock] at hk; omega)⟩
set_option maxHeartbeats 8000000 in
theorem do_some (X : Nat → Prop) (d : Nat) (S : St) (N : Nat) (what i : Int) (t : M.Tx) (ka : Addr) (kcap : Nat) (K : List Int) (w : World) (h : Dev X w d S) (g : Good N S) (hN : N + 1 ≤ 1000)
    (hk : ReadsN w (.slice (some ka) K.length kcap) K) (hkc : K.length ≤ kcap) (hkm : K.length ≤ maxLen) (_ht : t.length ≤ maxLen) :
    Calls Try.prog 16 #[.pointer (some ⟨d, 0, none⟩), .agg #[.int .i64 what, .int .i64 i, .string (M.bs t), .slice (some ka) K.length kcap]] w fun e w' => e = .returned (.tuple #[.string (M.bs (doT (kindI what) S i)), .int .i64 (doE (kindI what) S i (t.take 300))]) ∧ Dev X w' d (doS (kindI what) S i (t.take 300) (K.take 9)) ∧ Keep X w w' := by
  have hX := h.lt
  have hsz : (M.bs t).size = t.length := M.bs_size _
  have ce := cut_eq 300 t
  have e300 : ((300 : Nat) : Int) = 300 := rfl
  rw [e300] at ce
  obtain ⟨nd, hnd, hnd'⟩ : ∃ nd : Nat, min (t.length : Int) 300 = (nd : Int) ∧ nd ≤ t.length := ⟨min t.length 300, by omega, by omega⟩
  rw [hnd, Int.toNat_natCast] at ce
  have hD : (t.take 300).length ≤ 300 := by rw [List.length_take]; omega
  unfold maxLen at *
  generalize t.take 300 = D at *
  have B0 : Bel w (w.alloc (.cells #[.int .i64 what, .int .i64 i, .string (M.bs t), .slice (some ka) K.length kcap] 35)) := Bel.al (Below.refl _ _) _
  obtain ⟨nk, hnk, hnk', hnk9⟩ : ∃ nk : Nat, min (K.length : Int) 9 = (nk : Int) ∧ nk ≤ K.length ∧ nk = min K.length 9 := ⟨min K.length 9, by omega, by omega, rfl⟩
  have HB1 : ReadsN (w.alloc (.cells #[.int .i64 what, .int .i64 i, .string (M.bs t), .slice (some ka) K.length kcap] 35)) (.slice (some ka) K.length kcap) K := by
    obtain ⟨a', cap', e, h⟩ := hk
    refine ⟨a', cap', e, h.imp id ?_⟩
    rintro ⟨g, off, rfl, hc⟩
    exact ⟨g, off, rfl, fun j hj => Lib.cell?_alloc_some _ (hc j hj)⟩
  obtain ⟨v1, w1, ha, o1, k1⟩ := cpK HB1 hnk9
  rw [World.size_alloc] at ha
  have hl9 : (K.take 9).length = nk := by rw [List.length_take]; omega
  have hnkc : nk ≤ kcap := by omega
  clear HB1 hk
  have hK9 : (K.take 9).length ≤ 1000 := by rw [List.length_take]; omega
  generalize K.take 9 = K9 at *
  have HL9 := hid hl9
  clear hnk9 hl9
  obtain ⟨a4, cap4, rfl⟩ := row_form o1
  have c0 := fun (j : Nat) (v : Value) hv => (bel_cell k1 (by simp) j).trans (cell_of (i := j) (u := v) (heap_alloc_new w (.cells #[.int .i64 what, .int .i64 i, .string (M.bs t), .slice (some ka) K.length kcap] 35)) hv)
  have p0 := c0 0 _ rfl
  have p1 := c0 1 _ rfl
  have p2 := c0 2 _ rfl
  have p3 := c0 3 _ rfl
  have O1 := hid o1
  have K1 : Hid (Bel w w1) := B0.trans (k1.mono (by simp))
  have hkind : ∀ W, Calls Try.prog 11 #[.agg #[.int .i64 what, .int .i64 i, .string (M.bs t), .slice (some ka) K.length kcap]] W fun e w' => e = .returned (.int .i64 (kindI what)) ∧ Bel W w' := fun W => kind_any _ _ _ _ _ _ _ rfl W
  generalize kindI what = k at *
  clear c0 B0 k1 o1
  go_enter Try.func16, Try.ntmps16
  go_wp2_with (at_builtin; refine appL rfl _ _ rfl rfl rfl ha ?_)
  refine (hkind _).mono ?_
  rintro e w2 ⟨rfl, k2⟩
  have B2 : Hid (Bel w w2) := K1.out.tr k2
  have O2' := own_kept O1.out k2
  simp only [World.size_alloc] at O2'
  have O2 := hid O2'
  clear O2'
  have q1 := (bel_cell k2 (block_lt_of_cell p1) 1).trans p1
  have q2 := (bel_cell k2 (block_lt_of_cell p2) 2).trans p2
  simp at q1 q2
  clear p0 p1 p2 p3 K1 O1 k2
  clear ha hnk hnk' hnkc hkc hkm
  obtain rfl := HL9.out
  have H2 := hid (h.bel B2.out)
  clear h hkind
  by_cases h3 : k = 3
  · have HB : Hid (doT k S i = read S i ∧ doE k S i D = check S i ∧ doS k S i D K9 = S) := by subst h3; exact ⟨rfl, rfl, rfl⟩
    subst h3
    go_wp2_with (go_at_call 19; refine (read_any X d S N i w2 H2.out g).mono ?_; rintro e w9 ⟨rfl, k9⟩)
    go_ret2
    exact ⟨by rw [HB.out.1, HB.out.2.1]; rfl, by rw [HB.out.2.2]; exact H2.out.bel k9, (Keep.of_bel B2.out hX).tr (Keep.of_bel k9 H2.out.lt)⟩
  · have n3 : (k == 3) = false := by simpa using h3
    by_cases h4 : k = 4
    · have HB : Hid (doT k S i = [] ∧ doE k S i D = syncE S ∧ doS k S i D K9 = sync S) := by subst h4; exact ⟨rfl, rfl, rfl⟩
      subst h4
      have HC := hid (sync_any X d S N w2 H2.out g hN)
      go_wp2_with (go_at_call 14; refine HC.out.mono ?_; rintro e w9 ⟨rfl, h9, k9⟩; have H9 := hid h9; have K9' := hid k9; clear h9 k9)
      go_ret2
      exact ⟨by rw [HB.out.1, HB.out.2.1]; rfl, by rw [HB.out.2.2]; exact H9.out, (Keep.of_bel B2.out hX).tr K9'.out⟩
    · have n4 : (k == 4) = false := by simpa using h4
      by_cases h5 : k = 5
      · have HB : Hid (doT k S i = [] ∧ doE k S i D = 0 ∧ doS k S i D K9 = fuse S i K9) := by subst h5; exact ⟨rfl, rfl, rfl⟩
        subst h5
        have HC := hid (fuse_any X d S i K9 _ w2 H2.out (row_base O2.out).1 hK9)
        go_wp2_with (go_at_call 21; refine HC.out.mono ?_; rintro e w9 ⟨rfl, h9, k9⟩; have H9 := hid h9; have K9' := hid k9; clear h9 k9)
        go_ret2
        exact ⟨by rw [HB.out.1, HB.out.2.1]; rfl, by rw [HB.out.2.2]; exact H9.out, (Keep.of_bel B2.out hX).tr K9'.out⟩
      · have n5 : (k == 5) = false := by simpa using h5
        by_cases h6 : k = 6
        · have HB : Hid (doT k S i = [] ∧ doE k S i D = 0 ∧ doS k S i D K9 = blow S K9) := by subst h6; exact ⟨rfl, rfl, rfl⟩
          subst h6
          have HC := hid (blow_any X d S N K9 _ w2 H2.out g (readsN_of (row_base O2.out).1) hK9)
          go_wp2_with (go_at_call 15; refine HC.out.mono ?_; rintro e w9 ⟨rfl, h9, k9⟩; have H9 := hid h9; have K9' := hid k9; clear h9 k9)
          go_ret2
          exact ⟨by rw [HB.out.1, HB.out.2.1]; rfl, by rw [HB.out.2.2]; exact H9.out, (Keep.of_bel B2.out hX).tr K9'.out⟩
        · have n6 : (k == 6) = false := by simpa using h6
          by_cases h7 : k = 7
          · have HB : Hid (doT k S i = [] ∧ doE k S i D = 0 ∧ doS k S i D K9 = on S) := by subst h7; exact ⟨rfl, rfl, rfl⟩
            subst h7
            have HC := hid (on_any X d S w2 H2.out)
            go_wp2_with (go_at_call 20; refine HC.out.mono ?_; rintro e w9 ⟨rfl, h9, k9⟩; have H9 := hid h9; have K9' := hid k9; clear h9 k9)
            go_ret2
            exact ⟨by rw [HB.out.1, HB.out.2.1]; rfl, by rw [HB.out.2.2]; exact H9.out, (Keep.of_bel B2.out hX).tr K9'.out⟩
          · have n7 : (k == 7) = false := by simpa using h7
            by_cases h8 : k = 8
            · have HB : Hid (doT k S i = [] ∧ doE k S i D = 0 ∧ doS k S i D K9 = S) := by subst h8; exact ⟨rfl, rfl, rfl⟩
              subst h8
              go_wp2_with fail
              go_ret2
              exact ⟨by rw [HB.out.1, HB.out.2.1]; rfl, by rw [HB.out.2.2]; exact H2.out, Keep.of_bel B2.out hX⟩
            · have n8 : (k == 8) = false := by simpa using h8
              have HB : Hid (doT k S i = [] ∧ doE k S i D = writeE S i D ∧ doS k S i D K9 = write S i D) := ⟨by simp [doT, h3], by simp [doE, h3, h4, h5, h6, h7, h8], by simp [doS, h3, h4, h5, h6, h7, h8]⟩
              have HC := hid (write_any X d S N i D w2 H2.out g hN)
              go_wp2_with (go_at_call 13; refine HC.out.mono ?_; rintro e w9 ⟨rfl, h9, k9⟩; have H9 := hid h9; have K9' := hid k9; clear h9 k9)
              go_ret2
              exact ⟨by rw [HB.out.1, HB.out.2.1]; rfl, by rw [HB.out.2.2]; exact H9.out, (Keep.of_bel B2.out hX).tr K9'.out⟩
set_option maxHeartbeats 8000000 in
theorem do_none (X : Nat → Prop) (d : Nat) (S : St) (N : Nat) (what i : Int) (t : M.Tx) (kcap : Nat) (K : List Int) (w : World) (h : Dev X w d S) (g : Good N S) (hN : N + 1 ≤ 1000)
    (hK0 : K = []) (_ht : t.length ≤ maxLen) :
    Calls Try.prog 16 #[.pointer (some ⟨d, 0, none⟩), .agg #[.int .i64 what, .int .i64 i, .string (M.bs t), .slice none 0 kcap]] w fun e w' => e = .returned (.tuple #[.string (M.bs (doT (kindI what) S i)), .int .i64 (doE (kindI what) S i (t.take 300))]) ∧ Dev X w' d (doS (kindI what) S i (t.take 300) (K.take 9)) ∧ Keep X w w' := by
  have hX := h.lt
  have hsz : (M.bs t).size = t.length := M.bs_size _
  have ce := cut_eq 300 t
  have e300 : ((300 : Nat) : Int) = 300 := rfl
  rw [e300] at ce
  obtain ⟨nd, hnd, hnd'⟩ : ∃ nd : Nat, min (t.length : Int) 300 = (nd : Int) ∧ nd ≤ t.length := ⟨min t.length 300, by omega, by omega⟩
  rw [hnd, Int.toNat_natCast] at ce
  have hD : (t.take 300).length ≤ 300 := by rw [List.length_take]; omega
  unfold maxLen at *
  generalize t.take 300 = D at *
  have B0 : Bel w (w.alloc (.cells #[.int .i64 what, .int .i64 i, .string (M.bs t), .slice none 0 kcap] 35)) := Bel.al (Below.refl _ _) _
  subst hK0
  have hm9 : min (0 : Int) 9 = ((0 : Nat) : Int) := rfl
  have hl9 : (([] : List Int).take 9).length = 0 := rfl
  have o1 : ((w.alloc (.cells #[.int .i64 what, .int .i64 i, .string (M.bs t), .slice none 0 kcap] 35)).alloc (.cells #[] 3)).ownsRow (w.alloc (.cells #[.int .i64 what, .int .i64 i, .string (M.bs t), .slice none 0 kcap] 35)).heap.size 3 1 (.slice (some ⟨(w.alloc (.cells #[.int .i64 what, .int .i64 i, .string (M.bs t), .slice none 0 kcap] 35)).heap.size, 0, none⟩) 0 0) 0 (csN (([] : List Int).take 9)) := World.ownsRow_made _ #[] 0 (Nat.le_refl _) (Nat.zero_le _) (by simp)
  have k1 : Bel (w.alloc (.cells #[.int .i64 what, .int .i64 i, .string (M.bs t), .slice none 0 kcap] 35)) ((w.alloc (.cells #[.int .i64 what, .int .i64 i, .string (M.bs t), .slice none 0 kcap] 35)).alloc (.cells #[] 3)) := Bel.al (Below.refl _ _) _
  generalize ([] : List Int).take 9 = K9 at *
  have c0 := fun (j : Nat) (v : Value) hv => (bel_cell k1 (by simp) j).trans (cell_of (i := j) (u := v) (heap_alloc_new w (.cells #[.int .i64 what, .int .i64 i, .string (M.bs t), .slice none 0 kcap] 35)) hv)
  have p0 := c0 0 _ rfl
  have p1 := c0 1 _ rfl
  have p2 := c0 2 _ rfl
  have p3 := c0 3 _ rfl
  have O1 := hid o1
  have K1 : Hid (Bel w ((w.alloc (.cells #[.int .i64 what, .int .i64 i, .string (M.bs t), .slice none 0 kcap] 35)).alloc (.cells #[] 3))) := B0.trans (k1.mono (by simp))
  have hkind : ∀ W, Calls Try.prog 11 #[.agg #[.int .i64 what, .int .i64 i, .string (M.bs t), .slice none 0 kcap]] W fun e w' => e = .returned (.int .i64 (kindI what)) ∧ Bel W w' := fun W => kind_any _ _ _ _ _ _ _ rfl W
  generalize kindI what = k at *
  clear c0 B0 k1 o1
  go_enter Try.func16, Try.ntmps16
  go_wp2_with fail
  refine (hkind _).mono ?_
  rintro e w2 ⟨rfl, k2⟩
  have B2 : Hid (Bel w w2) := K1.out.tr k2
  have O2 := hid (own_kept O1.out k2)
  have q1 := (bel_cell k2 (block_lt_of_cell p1) 1).trans p1
  have q2 := (bel_cell k2 (block_lt_of_cell p2) 2).trans p2
  simp at q1 q2
  clear p0 p1 p2 p3 K1 O1 k2
  clear hm9
  replace O2 := O2.out
  obtain rfl : K9 = [] := List.length_eq_zero_iff.1 hl9
  simp only [World.size_alloc] at O2
  replace O2 := hid O2
  have hK9 : ([] : List Int).length ≤ 1000 := by simp
  have H2 := hid (h.bel B2.out)
  clear h hkind
  by_cases h3 : k = 3
  · have HB : Hid (doT k S i = read S i ∧ doE k S i D = check S i ∧ doS k S i D [] = S) := by subst h3; exact ⟨rfl, rfl, rfl⟩
    subst h3
    go_wp2_with (go_at_call 19; refine (read_any X d S N i w2 H2.out g).mono ?_; rintro e w9 ⟨rfl, k9⟩)
    go_ret2
    exact ⟨by rw [HB.out.1, HB.out.2.1]; rfl, by rw [HB.out.2.2]; exact H2.out.bel k9, (Keep.of_bel B2.out hX).tr (Keep.of_bel k9 H2.out.lt)⟩
  · have n3 : (k == 3) = false := by simpa using h3
    by_cases h4 : k = 4
    · have HB : Hid (doT k S i = [] ∧ doE k S i D = syncE S ∧ doS k S i D [] = sync S) := by subst h4; exact ⟨rfl, rfl, rfl⟩
      subst h4
      have HC := hid (sync_any X d S N w2 H2.out g hN)
      go_wp2_with (go_at_call 14; refine HC.out.mono ?_; rintro e w9 ⟨rfl, h9, k9⟩; have H9 := hid h9; have K9' := hid k9; clear h9 k9)
      go_ret2
      exact ⟨by rw [HB.out.1, HB.out.2.1]; rfl, by rw [HB.out.2.2]; exact H9.out, (Keep.of_bel B2.out hX).tr K9'.out⟩
    · have n4 : (k == 4) = false := by simpa using h4
      by_cases h5 : k = 5
      · have HB : Hid (doT k S i = [] ∧ doE k S i D = 0 ∧ doS k S i D [] = fuse S i []) := by subst h5; exact ⟨rfl, rfl, rfl⟩
        subst h5
        have HC := hid (fuse_any X d S i [] _ w2 H2.out (row_base O2.out).1 hK9)
        go_wp2_with (go_at_call 21; refine HC.out.mono ?_; rintro e w9 ⟨rfl, h9, k9⟩; have H9 := hid h9; have K9' := hid k9; clear h9 k9)
        go_ret2
        exact ⟨by rw [HB.out.1, HB.out.2.1]; rfl, by rw [HB.out.2.2]; exact H9.out, (Keep.of_bel B2.out hX).tr K9'.out⟩
      · have n5 : (k == 5) = false := by simpa using h5
        by_cases h6 : k = 6
        · have HB : Hid (doT k S i = [] ∧ doE k S i D = 0 ∧ doS k S i D [] = blow S []) := by subst h6; exact ⟨rfl, rfl, rfl⟩
          subst h6
          have HC := hid (blow_any X d S N [] _ w2 H2.out g (readsN_of (row_base O2.out).1) hK9)
          go_wp2_with (go_at_call 15; refine HC.out.mono ?_; rintro e w9 ⟨rfl, h9, k9⟩; have H9 := hid h9; have K9' := hid k9; clear h9 k9)
          go_ret2
          exact ⟨by rw [HB.out.1, HB.out.2.1]; rfl, by rw [HB.out.2.2]; exact H9.out, (Keep.of_bel B2.out hX).tr K9'.out⟩
        · have n6 : (k == 6) = false := by simpa using h6
          by_cases h7 : k = 7
          · have HB : Hid (doT k S i = [] ∧ doE k S i D = 0 ∧ doS k S i D [] = on S) := by subst h7; exact ⟨rfl, rfl, rfl⟩
            subst h7
            have HC := hid (on_any X d S w2 H2.out)
            go_wp2_with (go_at_call 20; refine HC.out.mono ?_; rintro e w9 ⟨rfl, h9, k9⟩; have H9 := hid h9; have K9' := hid k9; clear h9 k9)
            go_ret2
            exact ⟨by rw [HB.out.1, HB.out.2.1]; rfl, by rw [HB.out.2.2]; exact H9.out, (Keep.of_bel B2.out hX).tr K9'.out⟩
          · have n7 : (k == 7) = false := by simpa using h7
            by_cases h8 : k = 8
            · have HB : Hid (doT k S i = [] ∧ doE k S i D = 0 ∧ doS k S i D [] = S) := by subst h8; exact ⟨rfl, rfl, rfl⟩
              subst h8
              go_wp2_with fail
              go_ret2
              exact ⟨by rw [HB.out.1, HB.out.2.1]; rfl, by rw [HB.out.2.2]; exact H2.out, Keep.of_bel B2.out hX⟩
            · have n8 : (k == 8) = false := by simpa using h8
              have HB : Hid (doT k S i = [] ∧ doE k S i D = writeE S i D ∧ doS k S i D [] = write S i D) := ⟨by simp [doT, h3], by simp [doE, h3, h4, h5, h6, h7, h8], by simp [doS, h3, h4, h5, h6, h7, h8]⟩
              have HC := hid (write_any X d S N i D w2 H2.out g hN)
              go_wp2_with (go_at_call 13; refine HC.out.mono ?_; rintro e w9 ⟨rfl, h9, k9⟩; have H9 := hid h9; have K9' := hid k9; clear h9 k9)
              go_ret2
              exact ⟨by rw [HB.out.1, HB.out.2.1]; rfl, by rw [HB.out.2.2]; exact H9.out, (Keep.of_bel B2.out hX).tr K9'.out⟩
end Go.Proofs.Ytoelaemneoabfaa
