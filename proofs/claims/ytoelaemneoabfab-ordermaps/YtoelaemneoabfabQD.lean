/-
  The contracts of the document's own Delete and Set for layer 4, walked.
-/
import Derived.Test.YtoelaemneoabfabQG
namespace Go.Proofs.Ytoelaemneoabfab
open Go.RowKit
set_option maxRecDepth 100000

theorem grown_of {w w' : World} (h : Bel w w') : w.grownBy w' none := ⟨h.os, h.tape, h.output, h.size, fun k hk _ => h.block k hk⟩
theorem wp_normal {P : Program} {s : Code} {K : Act → World → Prop} {Q : Exit → Act → World → Prop} {a : Act} {w : World} (h : s.wp P (fun e a w => e = .normal ∧ K a w) a w) : s.wp P (Exit.then K Q) a w :=
  wp_mono h (by rintro e a w ⟨rfl, h⟩; exact h)
theorem wp_last {P : Program} {s : Code} {Q : Exit → Act → World → Prop} {a : Act} {w : World} (h : ∀ K : Act → World → Prop, (∀ a' w', Q .normal a' w' → K a' w') → s.wp P (Exit.then K Q) a w) : s.wp P Q a w := by
  refine wp_mono (h (Q .normal) (fun _ _ q => q)) ?_
  intro e a' w' hq
  cases e <;> exact hq
/-- A block of two cells. -/
def C2 (w : World) (b : Nat) (x y : Value) : Prop := w.heap[b]? = some (.cells #[x, y] 30 (0, 0))
theorem C2.lt {w : World} {b : Nat} {x y : Value} (h : C2 w b x y) : b < w.heap.size := (Array.getElem?_eq_some_iff.1 h).1
theorem C2.bel {w w' : World} {b : Nat} {x y : Value} (h : C2 w b x y) (k : Bel w w') : C2 w' b x y := (k.block b h.lt).trans h
/-- Both rows are the call's own. -/
def OwnM (w : World) (base : Nat) (kv vv : Value) (R : M.Rm) : Prop := w.ownsRow base 9 1 kv R.length (csT (R.map (·.1))) ∧ w.ownsRow base 3 1 vv R.length (csN (R.map (·.2)))
theorem OwnM.bel {w w' : World} {base : Nat} {kv vv : Value} {R : M.Rm} (h : OwnM w base kv vv R) (k : Bel w w') : OwnM w' base kv vv R :=
  ⟨World.ownsRow.kept h.1 (grown_of k) (by cases kv.ownBlock with | none => exact .inl rfl | some k => exact .inr (by simp)), World.ownsRow.kept h.2 (grown_of k) (by cases vv.ownBlock with | none => exact .inl rfl | some k => exact .inr (by simp))⟩
theorem OwnM.nil (w : World) (base : Nat) : OwnM w base (.slice none 0 0) (.slice none 0 0) [] := ⟨World.ownsRow_nil _ _ _ _, World.ownsRow_nil _ _ _ _⟩
theorem OwnM.snoc {w : World} {base : Nat} {kv vv : Value} {R : M.Rm} {e : M.Tk × Int} (h1 : w.ownsRow base 9 1 kv (R.length + 1) (csT (R.map (·.1)) ++ [.string (M.bs e.1)])) (h2 : w.ownsRow base 3 1 vv (R.length + 1) (csN (R.map (·.2)) ++ [.int .i64 e.2])) : OwnM w base kv vv (R ++ [e]) := by
  unfold OwnM
  rw [List.length_append, List.map_append, List.map_append]
  unfold csT csN at *
  rw [List.map_append, List.map_append]
  exact ⟨h1, h2⟩
theorem C2.both {W : World} {b : Nat} {x y : Value} (u v : Value) (h : C2 W b x y) : C2 ((W.setCell ⟨b, 0, none⟩ u).setCell ⟨b, 1, none⟩ v) b u v := by
  have g1 := heap_setCell_same W b 0 #[x, y] 30 u h
  exact heap_setCell_same _ b 1 _ 30 v g1
theorem two_stored {base A n n' : Nat} {X Y x y u v : Value} {e e' t : TypeId} {vx vy : Value} {W2 w : World} {xs ys : List Value} (ha : w.heap[A]? = some (.cells #[x, y] t (0, 0))) (hx : w.ownsRow base e 1 vx n xs) (hy : w.ownsRow base e' 1 vy n' ys) (h1 : t ≠ e) (h2 : t ≠ e') (st : Stays base X Y W2 w) (hA : base ≤ A) :
    ((w.setCell ⟨A, 0, none⟩ u).setCell ⟨A, 1, none⟩ v).ownsRow base e 1 vx n xs ∧ ((w.setCell ⟨A, 0, none⟩ u).setCell ⟨A, 1, none⟩ v).ownsRow base e' 1 vy n' ys ∧ ((w.setCell ⟨A, 0, none⟩ u).setCell ⟨A, 1, none⟩ v).heap[A]? = some (.cells #[u, v] t (0, 0)) ∧ Stored base X Y A A W2 ((w.setCell ⟨A, 0, none⟩ u).setCell ⟨A, 1, none⟩ v) := by
  have nx := row_ne hx ha h1
  have ny := row_ne hy ha h2
  refine ⟨row_stored hx nx nx, row_stored hy ny ny, ?_, st.stored hA hA 0 1 u v⟩
  have g1 := heap_setCell_same w A 0 #[x, y] t u ha
  exact heap_setCell_same _ A 1 _ t v g1
theorem rdel_snoc (R : M.Rm) (k : M.Tk) (j : Nat) (h : j < R.length) : M.rdel (R.take (j + 1)) k = M.rdel (R.take j) k ++ (if R[j].1 = k then [] else [R[j]]) := by
  unfold M.rdel
  rw [List.take_succ_eq_append_getElem h, List.filter_append]
  congr 1
  by_cases hk : R[j].1 = k
  · simp [hk]
  · simp [hk]
set_option maxHeartbeats 16000000 in
theorem rdelS (R : M.Rm) (k : M.Tk) (kv vv : Value) (w : World) (hR : R.length ≤ 1000) (h : ShowM w kv vv R) :
    Calls Try.prog 10 #[.agg #[kv, vv], .string (M.bs k)] w fun e w' => ∃ x y, e = .returned (.agg #[x, y]) ∧ OwnM w' w.heap.size x y (M.rdel R k) ∧ Bel w w' := by
  obtain ⟨a, c, a', c', rfl, rfl, hs⟩ := h
  have b1 : Bel w (((w.alloc (.cells #[.slice a R.length c, .slice a' R.length c'] 30)).alloc (.cells #[.slice none 0 0, .slice none 0 0] 30)).alloc (.cells #[.slice none 0 0, .slice none 0 0] 30)) := Bel.al (Bel.al (Bel.al (Below.refl _ _) _) _) _
  have gm : C2 (((w.alloc (.cells #[.slice a R.length c, .slice a' R.length c'] 30)).alloc (.cells #[.slice none 0 0, .slice none 0 0] 30)).alloc (.cells #[.slice none 0 0, .slice none 0 0] 30)) w.heap.size (.slice a R.length c) (.slice a' R.length c') :=
    ((Below.heap_alloc _ _ _ (by simp; omega)).trans (Below.heap_alloc _ _ _ (by simp))).trans (heap_alloc_new w _)
  have gr : C2 (((w.alloc (.cells #[.slice a R.length c, .slice a' R.length c'] 30)).alloc (.cells #[.slice none 0 0, .slice none 0 0] 30)).alloc (.cells #[.slice none 0 0, .slice none 0 0] 30)) (w.heap.size + 1) (.slice none 0 0) (.slice none 0 0) := by
    have := heap_alloc_new (w.alloc (.cells #[.slice a R.length c, .slice a' R.length c'] 30)) (.cells #[.slice none 0 0, .slice none 0 0] 30)
    rw [World.size_alloc] at this
    exact (Below.heap_alloc _ _ _ (by simp)).trans this
  have go : C2 (((w.alloc (.cells #[.slice a R.length c, .slice a' R.length c'] 30)).alloc (.cells #[.slice none 0 0, .slice none 0 0] 30)).alloc (.cells #[.slice none 0 0, .slice none 0 0] 30)) (w.heap.size + 1 + 1) (.slice none 0 0) (.slice none 0 0) := by
    have := heap_alloc_new ((w.alloc (.cells #[.slice a R.length c, .slice a' R.length c'] 30)).alloc (.cells #[.slice none 0 0, .slice none 0 0] 30)) (.cells #[.slice none 0 0, .slice none 0 0] 30)
    rw [World.size_alloc, World.size_alloc] at this
    exact this
  go_enter Try.func10, Try.ntmps10
  go_wp2_with fail
  generalize (((w.alloc (.cells #[.slice a R.length c, .slice a' R.length c'] 30)).alloc (.cells #[.slice none 0 0, .slice none 0 0] 30)).alloc (.cells #[.slice none 0 0, .slice none 0 0] 30)) = W0 at *
  go_loopw [6] (fun i wr => ∃ (j : Nat) (x y : Value), j ≤ R.length ∧ i = .int .i64 j ∧ OwnM wr w.heap.size x y (M.rdel (R.take j) k) ∧ C2 wr w.heap.size (.slice a R.length c) (.slice a' R.length c') ∧ C2 wr (w.heap.size + 1) (.slice none 0 0) (.slice none 0 0) ∧ C2 wr (w.heap.size + 1 + 1) x y ∧ Bel w wr) (fun i _ => R.length - (intOf i).toNat)
  case atStart => exact ⟨0, _, _, Nat.zero_le _, rfl, OwnM.nil _ _, gm, gr, go, b1⟩
  case round =>
    clear gm gr go b1
    obtain ⟨j, x, y, hj, rfl, hown, gm, gr, go, hb⟩ := hrel
    have m0 := cell_of (i := 0) gm rfl
    have m1 := cell_of (i := 1) gm rfl
    by_cases hlt : j < R.length
    · rcases hs with rfl | ⟨g, off, g', off', rfl, rfl, h3, h4⟩
      · simp at hlt
      have hgw := h3.lt (by simp; omega)
      have hgw2 := h4.lt (by simp; omega)
      have hgl := Nat.lt_of_lt_of_le hgw hb.size
      have hgl2 := Nat.lt_of_lt_of_le hgw2 hb.size
      have e1 := (h3.bel hb) j (by simpa using hlt)
      have e2 := (h4.bel hb) j (by simpa using hlt)
      rw [(map_get R j hlt).1] at e1
      rw [(map_get R j hlt).2] at e2
      have HD := hid (rdel_snoc R k j hlt)
      have hcl : (M.rdel (R.take j) k).length ≤ 1000 := by
        have := List.length_filter_le (fun e : M.Tk × Int => decide (e.1 ≠ k)) (R.take j)
        unfold M.rdel; rw [List.length_take] at this; omega
      clear h3 h4
      generalize R[j] = E at *
      obtain ⟨ek, ev⟩ := E
      simp only at e1 e2
      by_cases hk : ek = k
      · have hq : ((M.bs ek).toList == (M.bs k).toList) = true := by rw [beq_iff_eq, M.bs_toList, M.bs_toList]; exact hk
        rw [show (if (ek, ev).1 = k then ([] : M.Rm) else [(ek, ev)]) = [] from if_pos hk, List.append_nil] at HD
        have OW := hid hown
        have GM := hid gm
        have GR := hid gr
        have GO := hid go
        clear hown gm gr go
        go_wp2_with fail
        go_roundw
        case rel => exact ⟨j + 1, _, _, by omega, by go_num, by rw [HD.out]; exact OW.out, GM.out, GR.out, GO.out, hb⟩
        case measure => simp [intOf]; omega
      · have hq : ((M.bs ek).toList == (M.bs k).toList) = false := by rw [beq_eq_false_iff_ne, M.bs_toList, M.bs_toList]; exact hk
        rw [show (if (ek, ev).1 = k then ([] : M.Rm) else [(ek, ev)]) = [(ek, ev)] from if_neg hk] at HD
        generalize M.rdel (R.take j) k = C at *
        obtain ⟨ax, cx, rfl⟩ := row_form hown.1
        obtain ⟨ay, cy, rfl⟩ := row_form hown.2
        have hl1 : C.length ≤ 100000 := by omega
        have hl2 := hl1
        have HX0 := hid hown.1
        have HY0 := hid hown.2
        have GM := hid gm
        have GR := hid gr
        have GO := hid go
        clear hown gm gr go
        go_wp2_with fail
        clear m0 m1
        have b6 : Bel wr wr.drew := Bel.dr (Below.refl _ _)
        have hb6 := hb.tr b6
        have e1 := (bel_cell b6 hgl _).trans e1
        have e2 := (bel_cell b6 hgl2 _).trans e2
        have ox := World.ownsRow.kept HX0.out (grown_of b6) (by cases (Value.slice ax C.length cx).ownBlock with | none => exact .inl rfl | some k => exact .inr (by simp))
        have oy := World.ownsRow.kept HY0.out (grown_of b6) (by cases (Value.slice ay C.length cy).ownBlock with | none => exact .inl rfl | some k => exact .inr (by simp))
        have gM := (b6.block _ GM.out.lt).trans GM.out
        have gR := (b6.block _ GR.out.lt).trans GR.out
        have gA := (b6.block _ GO.out.lt).trans GO.out
        go_wp2_with fail
        refine wp_last (fun KZ hKZ => ?_)
        refine wp_normal ?_
        refine region_until (S := fun W : World => W.cell? ⟨w.heap.size + 1 + 1, 0, none⟩ = some (.slice ax C.length cx) ∧ W.cell? ⟨w.heap.size + 1 + 1, 1, none⟩ = some (.slice ay C.length cy) ∧ W.cell? ⟨w.heap.size, 0, none⟩ = some (.slice (some ⟨g, off, none⟩) R.length c) ∧ W.cell? ⟨w.heap.size, 1, none⟩ = some (.slice (some ⟨g', off', none⟩) R.length c') ∧ W.cell? ⟨g, off + j, none⟩ = some (.string (M.bs ek)) ∧ W.cell? ⟨g', off' + j, none⟩ = some (.int .i64 ev)) (m := 19) (by kernel_rfl) ?_
        generalize wr.drew = W6 at b6 hb6 e1 e2 ox oy gM gR gA ⊢
        obtain ⟨base, hbase⟩ : ∃ base, base = w.heap.size := ⟨_, rfl⟩
        have hbz : base ≤ W6.heap.size := by have := hb6.size; omega
        rw [← hbase] at ox oy
        have hrX : ∀ k, (Value.slice ax C.length cx).ownBlock = some k → base ≤ k := fun k hk => (World.ownsRow.lt ox k hk).1
        have hrY : ∀ k, (Value.slice ay C.length cy).ownBlock = some k → base ≤ k := fun k hk => (World.ownsRow.lt oy k hk).1
        have lA := (Array.getElem?_eq_some_iff.1 gA).1
        have nAX := row_ne ox gA (by decide)
        have nAY := row_ne oy gA (by decide)
        have hbA : base ≤ w.heap.size + 1 + 1 := by omega
        have hSS : ∀ W, Stays base (.slice ax C.length cx) (.slice ay C.length cy) W6 W → (W.cell? ⟨w.heap.size + 1 + 1, 0, none⟩ = some (.slice ax C.length cx) ∧ W.cell? ⟨w.heap.size + 1 + 1, 1, none⟩ = some (.slice ay C.length cy) ∧ W.cell? ⟨w.heap.size, 0, none⟩ = some (.slice (some ⟨g, off, none⟩) R.length c) ∧ W.cell? ⟨w.heap.size, 1, none⟩ = some (.slice (some ⟨g', off', none⟩) R.length c') ∧ W.cell? ⟨g, off + j, none⟩ = some (.string (M.bs ek)) ∧ W.cell? ⟨g', off' + j, none⟩ = some (.int .i64 ev)) := fun W h => by
          have a1 := (h.block _ lA nAX nAY).trans gA
          have a2 := (h.block _ (Array.getElem?_eq_some_iff.1 gM).1 (row_ne ox gM (by decide)) (row_ne oy gM (by decide))).trans gM
          have q1 : g < W6.heap.size := Nat.lt_of_lt_of_le hgw hb6.size
          have q2 : g' < W6.heap.size := Nat.lt_of_lt_of_le hgw2 hb6.size
          have a3 := World.cell?_of_block (a := ⟨g, off + j, none⟩) (h.block g q1 (fun e => by have := hrX _ e.symm; omega) (fun e => by have := hrY _ e.symm; omega))
          have a4 := World.cell?_of_block (a := ⟨g', off' + j, none⟩) (h.block g' q2 (fun e => by have := hrX _ e.symm; omega) (fun e => by have := hrY _ e.symm; omega))
          exact ⟨cell_of a1 rfl, cell_of a1 rfl, cell_of a2 rfl, cell_of a2 rfl, a3.trans e1, a4.trans e2⟩
        have HQ : Hid (∀ W, Stored base (.slice ax C.length cx) (.slice ay C.length cy) (w.heap.size + 1 + 1) (w.heap.size + 1 + 1) W6 W → C2 W w.heap.size (.slice (some ⟨g, off, none⟩) R.length c) (.slice (some ⟨g', off', none⟩) R.length c') ∧ C2 W (w.heap.size + 1) (.slice none 0 0) (.slice none 0 0) ∧ Bel w W) := fun W h =>
          ⟨(h.block _ (Array.getElem?_eq_some_iff.1 gM).1 (row_ne ox gM (by decide)) (row_ne oy gM (by decide)) (by omega) (by omega)).trans gM, (h.block _ (Array.getElem?_eq_some_iff.1 gR).1 (row_ne ox gR (by decide)) (row_ne oy gR (by decide)) (by omega) (by omega)).trans gR, hb6.trans (hbase ▸ h.below)⟩
        have hS := hSS _ (Stays.refl _ _ _ _)
        have s3 : ∀ o, Stays base (.slice ax C.length cx) (.slice ay C.length cy) W6 (W6.alloc o) := fun o => (Stays.refl _ _ _ _).al hbz o
        have s38 : ∀ o o', Stays base (.slice ax C.length cx) (.slice ay C.length cy) W6 ((W6.alloc o).alloc o') := fun o o' => (s3 o).al hbz o'
        have far : ∀ i, W6.heap.size ≤ i → some i ≠ (Value.slice ax C.length cx).ownBlock := fun i hi e => by have := (World.ownsRow.lt ox i e.symm).2; omega
        refine take_next (i := 0) (.pointer (some ⟨w.heap.size + 1 + 1, 0, none⟩)) [1, 8, 19] (by kernel_rfl) (by kernel_rfl) rfl (by kernel_rfl) (by kernel_rfl) (by kernel_rfl) (by kernel_rfl) (fun _ _ _ h => absurd h.1 (by simp)) (Or.inl ⟨by rfl, fun w' hSw => by obtain ⟨h1, h2, h3, h4, h5, h6⟩ := hSw; go_simp⟩) hS ?_
        simp only [Act.put]
        refine take_next (i := 1) ((.slice ax C.length cx)) [8, 19] (by kernel_rfl) (by kernel_rfl) rfl (by kernel_rfl) (by kernel_rfl) (by kernel_rfl) (by kernel_rfl) (fun _ _ _ h => absurd h.1 (by simp)) (Or.inl ⟨by rfl, fun w' hSw => by obtain ⟨h1, h2, h3, h4, h5, h6⟩ := hSw; go_simp⟩) hS ?_
        simp only [Act.put]
        refine take_next (i := 2) (.pointer (some ⟨w.heap.size, 0, none⟩)) [3, 5, 6, 7, 8, 19] (by kernel_rfl) (by kernel_rfl) rfl (by kernel_rfl) (by kernel_rfl) (by kernel_rfl) (by kernel_rfl) (fun _ _ _ h => absurd h.1 (by simp)) (Or.inl ⟨by rfl, fun w' hSw => by obtain ⟨h1, h2, h3, h4, h5, h6⟩ := hSw; go_simp⟩) hS ?_
        simp only [Act.put]
        refine take_next (i := 3) (.slice (some ⟨g, off, none⟩) R.length c) [5, 6, 7, 8, 19] (by kernel_rfl) (by kernel_rfl) rfl (by kernel_rfl) (by kernel_rfl) (by kernel_rfl) (by kernel_rfl) (fun _ _ _ h => absurd h.1 (by simp)) (Or.inl ⟨by rfl, fun w' hSw => by obtain ⟨h1, h2, h3, h4, h5, h6⟩ := hSw; go_simp⟩) hS ?_
        simp only [Act.put]
        refine take_next (i := 4) (.int .i64 (j : Int)) [5, 6, 7, 8, 19] (by kernel_rfl) (by kernel_rfl) rfl (by kernel_rfl) (by kernel_rfl) (by kernel_rfl) (by kernel_rfl) (fun _ _ _ h => absurd h.1 (by simp)) (Or.inl ⟨by rfl, fun w' hSw => by obtain ⟨h1, h2, h3, h4, h5, h6⟩ := hSw; go_simp⟩) hS ?_
        simp only [Act.put]
        refine take_next (i := 5) (.pointer (some ⟨g, off + j, none⟩)) [6, 7, 8, 19] (by kernel_rfl) (by kernel_rfl) rfl (by kernel_rfl) (by kernel_rfl) (by kernel_rfl) (by kernel_rfl) (fun _ _ _ h => absurd h.1 (by simp)) (Or.inl ⟨by rfl, fun w' hSw => by obtain ⟨h1, h2, h3, h4, h5, h6⟩ := hSw; go_simp⟩) hS ?_
        simp only [Act.put]
        refine take_next (i := 6) (.string (M.bs ek)) [7, 8, 19] (by kernel_rfl) (by kernel_rfl) rfl (by kernel_rfl) (by kernel_rfl) (by kernel_rfl) (by kernel_rfl) (fun _ _ _ h => absurd h.1 (by simp)) (Or.inl ⟨by rfl, fun w' hSw => by obtain ⟨h1, h2, h3, h4, h5, h6⟩ := hSw; go_simp⟩) hS ?_
        simp only [Act.put]
        refine take_next (i := 9) (.pointer (some ⟨w.heap.size + 1 + 1, 1, none⟩)) [10, 17, 19] (by kernel_rfl) (by kernel_rfl) rfl (by kernel_rfl) (by kernel_rfl) (by kernel_rfl) (by kernel_rfl) (fun _ _ _ h => absurd h.1 (by simp)) (Or.inl ⟨by rfl, fun w' hSw => by obtain ⟨h1, h2, h3, h4, h5, h6⟩ := hSw; go_simp⟩) hS ?_
        simp only [Act.put]
        refine take_next (i := 10) ((.slice ay C.length cy)) [17, 19] (by kernel_rfl) (by kernel_rfl) rfl (by kernel_rfl) (by kernel_rfl) (by kernel_rfl) (by kernel_rfl) (fun _ _ _ h => absurd h.1 (by simp)) (Or.inl ⟨by rfl, fun w' hSw => by obtain ⟨h1, h2, h3, h4, h5, h6⟩ := hSw; go_simp⟩) hS ?_
        simp only [Act.put]
        refine take_next (i := 11) (.pointer (some ⟨w.heap.size, 1, none⟩)) [12, 14, 15, 16, 17, 19] (by kernel_rfl) (by kernel_rfl) rfl (by kernel_rfl) (by kernel_rfl) (by kernel_rfl) (by kernel_rfl) (fun _ _ _ h => absurd h.1 (by simp)) (Or.inl ⟨by rfl, fun w' hSw => by obtain ⟨h1, h2, h3, h4, h5, h6⟩ := hSw; go_simp⟩) hS ?_
        simp only [Act.put]
        refine take_next (i := 12) (.slice (some ⟨g', off', none⟩) R.length c') [14, 15, 16, 17, 19] (by kernel_rfl) (by kernel_rfl) rfl (by kernel_rfl) (by kernel_rfl) (by kernel_rfl) (by kernel_rfl) (fun _ _ _ h => absurd h.1 (by simp)) (Or.inl ⟨by rfl, fun w' hSw => by obtain ⟨h1, h2, h3, h4, h5, h6⟩ := hSw; go_simp⟩) hS ?_
        simp only [Act.put]
        refine take_next (i := 13) (.int .i64 (j : Int)) [14, 15, 16, 17, 19] (by kernel_rfl) (by kernel_rfl) rfl (by kernel_rfl) (by kernel_rfl) (by kernel_rfl) (by kernel_rfl) (fun _ _ _ h => absurd h.1 (by simp)) (Or.inl ⟨by rfl, fun w' hSw => by obtain ⟨h1, h2, h3, h4, h5, h6⟩ := hSw; go_simp⟩) hS ?_
        simp only [Act.put]
        refine take_next (i := 14) (.pointer (some ⟨g', off' + j, none⟩)) [15, 16, 17, 19] (by kernel_rfl) (by kernel_rfl) rfl (by kernel_rfl) (by kernel_rfl) (by kernel_rfl) (by kernel_rfl) (fun _ _ _ h => absurd h.1 (by simp)) (Or.inl ⟨by rfl, fun w' hSw => by obtain ⟨h1, h2, h3, h4, h5, h6⟩ := hSw; go_simp⟩) hS ?_
        simp only [Act.put]
        refine take_next (i := 15) (.int .i64 ev) [16, 17, 19] (by kernel_rfl) (by kernel_rfl) rfl (by kernel_rfl) (by kernel_rfl) (by kernel_rfl) (by kernel_rfl) (fun _ _ _ h => absurd h.1 (by simp)) (Or.inl ⟨by rfl, fun w' hSw => by obtain ⟨h1, h2, h3, h4, h5, h6⟩ := hSw; go_simp⟩) hS ?_
        simp only [Act.put]
        refine until_ready (rs := [7, 16]) (by kernel_rfl) (by simp) ?_
        intro jj hjj
        simp only [List.mem_cons, List.not_mem_nil, or_false] at hjj
        rcases hjj with rfl | rfl
        · skip
          refine wpOp_step rfl (fun KX hKX => ?_)
          have HX := hid hKX
          clear hKX
          go_simp
          refine HX.out _ _ ⟨fun _ => hSS _ (s3 _), ?_⟩
          clear HX
          refine until_ready (rs := [8, 16]) (by kernel_rfl) (by simp) ?_
          intro jj hjj
          simp only [List.mem_cons, List.not_mem_nil, or_false] at hjj
          rcases hjj with rfl | rfl
          · skip
            refine wpOp_step rfl (fun KX hKX => ?_)
            have HX := hid hKX
            clear hKX
            refine app_step (by rfl) _ _ 27 (by rfl) base 9 _ 1 16 Try.underlying27 info9 rfl (by decide) (.slice ax C.length cx) C.length (csT (C.map (·.1))) (by rfl) (by exact ox.alloc _) _ _ _ (by rfl) (by exact heap_alloc_new W6 _) rfl (by intro u hu; simp at hu; subst hu; rfl) hl1 (by decide) (by first | omega | (simp; done) | (simp; omega)) ?_
            intro v1 w5 o5 r5
            have st5 := (s3 _).app1 hbz r5 hrX
            have oy5 : w5.ownsRow base 3 1 (.slice ay C.length cy) C.length (csN (C.map (·.2))) := row_keep r5 (by exact oy.alloc _) (by exact ox.alloc _) (by decide)
            obtain ⟨ao5, cp5, rfl⟩ := row_form o5
            have hS5 := hSS _ st5
            have z5 := st5.below.size
            refine HX.out _ _ ⟨fun _ => hS5, ?_⟩
            clear HX
            simp only [Act.put]
            refine take_next (i := 18) (.pointer (some ⟨w.heap.size + 1 + 1, 0, none⟩)) [19] (by kernel_rfl) (by kernel_rfl) rfl (by kernel_rfl) (by kernel_rfl) (by kernel_rfl) (by kernel_rfl) (fun _ _ _ h => absurd h.1 (by simp)) (Or.inl ⟨by rfl, fun w' hSw => by obtain ⟨h1, h2, h3, h4, h5, h6⟩ := hSw; go_simp⟩) hS5 ?_
            simp only [Act.put]
            refine until_ready (rs := [16]) (by kernel_rfl) (by simp) ?_
            intro jj hjj
            simp only [List.mem_cons, List.not_mem_nil, or_false] at hjj
            subst hjj
            refine wpOp_step rfl (fun KX hKX => ?_)
            have HX := hid hKX
            clear hKX
            go_simp
            refine HX.out _ _ ⟨fun _ => hSS _ (st5.al hbz _), ?_⟩
            clear HX
            refine until_ready (rs := [17]) (by kernel_rfl) (by simp) ?_
            intro jj hjj
            simp only [List.mem_cons, List.not_mem_nil, or_false] at hjj
            subst hjj
            refine wpOp_step rfl (fun KX hKX => ?_)
            have HX := hid hKX
            clear hKX
            refine app_step (by rfl) _ _ 28 (by rfl) base 3 _ 1 8 Try.underlying28 info3 rfl (by decide) (.slice ay C.length cy) C.length (csN (C.map (·.2))) (by rfl) (by exact oy5.alloc _) _ _ _ (by rfl) (by exact heap_alloc_new w5 _) rfl (by intro u hu; simp at hu; subst hu; rfl) hl2 (by decide) (by first | omega | (simp; done) | (simp; omega)) ?_
            intro v2 w6 o6 r6
            have st6 := (st5.al hbz _).app2 hbz r6 hrY
            have ox6 : w6.ownsRow base 9 1 (.slice ao5 (C.length + 1) cp5) (C.length + 1) ((csT (C.map (·.1))) ++ [.string (M.bs ek)]) := row_keep r6 (by exact o5.alloc _) (by exact oy5.alloc _) (by decide)
            obtain ⟨ao6, cp6, rfl⟩ := row_form o6
            refine HX.out _ _ ⟨fun _ => hSS _ st6, ?_⟩
            clear HX
            simp only [Act.put]
            have a6 := (st6.block _ lA nAX nAY).trans gA
            have y1 := cell_of (i := 0) a6 rfl
            have y2 := cell_of (i := 1) a6 rfl
            have f1 := Lib.frozen_of_heap a6 0
            have f2 := Lib.frozen_of_heap a6 1
            have FIN := hid (two_stored (u := .slice ao5 (C.length + 1) cp5) (v := .slice ao6 (C.length + 1) cp6) a6 ox6 o6 (by decide) (by decide) st6 hbA)
            clear ox6 o6 o5 oy5 a6 st6 st5 r5 r6 ox oy gA hSS hS hS5 nAX nAY hrX hrY
            refine until_ready (rs := [19]) (by kernel_rfl) (by simp) ?_
            intro jj hjj
            simp only [List.mem_cons, List.not_mem_nil, or_false] at hjj
            subst hjj
            refine wpOp_step rfl (fun KX hKX => ?_)
            have HX := hid hKX
            clear hKX
            go_simp
            refine HX.out _ _ ⟨(fun h => by cases (Eq.trans (Eq.symm (show _ = true by kernel_rfl)) h)), ?_⟩
            clear HX
            refine until_ready (rs := [20]) (by kernel_rfl) (by simp) ?_
            intro jj hjj
            simp only [List.mem_cons, List.not_mem_nil, or_false] at hjj
            subst hjj
            refine wpOp_step rfl (fun KX hKX => ?_)
            have HX := hid hKX
            clear hKX
            go_simp
            refine HX.out _ _ ⟨(fun h => by cases (Eq.trans (Eq.symm (show _ = true by kernel_rfl)) h)), ?_⟩
            clear HX
            refine until_ready (rs := [21]) (by kernel_rfl) (by simp) ?_
            intro jj hjj
            simp only [List.mem_cons, List.not_mem_nil, or_false] at hjj
            subst hjj
            refine wpOp_step rfl (fun KX hKX => ?_)
            have HX := hid hKX
            clear hKX
            go_simp
            refine HX.out _ _ ⟨(fun h => by cases (Eq.trans (Eq.symm (show _ = true by kernel_rfl)) h)), ?_⟩
            clear HX
            refine until_done (by kernel_rfl) ⟨rfl, ?_⟩ _
            refine hKZ _ _ ?_
            obtain ⟨f1, f2, f3, f4⟩ := FIN.out
            obtain ⟨t1, t2, t3⟩ := HQ.out _ f4
            rw [hbase] at f1 f2
            generalize (w6.setCell ⟨w.heap.size + 1 + 1, 0, none⟩ (.slice ao5 (C.length + 1) cp5)).setCell ⟨w.heap.size + 1 + 1, 1, none⟩ (.slice ao6 (C.length + 1) cp6) = W9 at *
            have oN := hid (OwnM.snoc (e := (ek, ev)) f1 f2)
            clear f1 f2 f4 FIN HQ
            go_wp2_with fail
            go_roundw
            case rel => exact ⟨j + 1, _, _, by omega, by go_num, by rw [HD.out]; exact oN.out, t1, t2, f3, t3⟩
            case measure => simp [intOf]; omega
          · skip
            refine wpOp_step rfl (fun KX hKX => ?_)
            have HX := hid hKX
            clear hKX
            go_simp
            refine HX.out _ _ ⟨fun _ => hSS _ (s38 _ _), ?_⟩
            clear HX
            refine until_ready (rs := [8]) (by kernel_rfl) (by simp) ?_
            intro jj hjj
            simp only [List.mem_cons, List.not_mem_nil, or_false] at hjj
            subst hjj
            refine wpOp_step rfl (fun KX hKX => ?_)
            have HX := hid hKX
            clear hKX
            refine app_step (by rfl) _ _ 27 (by rfl) base 9 _ 1 16 Try.underlying27 info9 rfl (by decide) (.slice ax C.length cx) C.length (csT (C.map (·.1))) (by rfl) (by exact (ox.alloc _).alloc _) _ _ _ (by rfl) (by exact (heap_two W6 _ _).1) rfl (by intro u hu; simp at hu; subst hu; rfl) hl1 (by decide) (by first | omega | (simp; done) | (simp; omega)) ?_
            intro v1 w5 o5 r5
            have st5 := (s38 _ _).app1 hbz r5 hrX
            have oy5 : w5.ownsRow base 3 1 (.slice ay C.length cy) C.length (csN (C.map (·.2))) := row_keep r5 (by exact (oy.alloc _).alloc _) (by exact (ox.alloc _).alloc _) (by decide)
            obtain ⟨ao5, cp5, rfl⟩ := row_form o5
            have hS5 := hSS _ st5
            have z5 := st5.below.size
            refine HX.out _ _ ⟨fun _ => hS5, ?_⟩
            clear HX
            simp only [Act.put]
            refine take_next (i := 18) (.pointer (some ⟨w.heap.size + 1 + 1, 0, none⟩)) [19] (by kernel_rfl) (by kernel_rfl) rfl (by kernel_rfl) (by kernel_rfl) (by kernel_rfl) (by kernel_rfl) (fun _ _ _ h => absurd h.1 (by simp)) (Or.inl ⟨by rfl, fun w' hSw => by obtain ⟨h1, h2, h3, h4, h5, h6⟩ := hSw; go_simp⟩) hS5 ?_
            simp only [Act.put]
            refine until_ready (rs := [17]) (by kernel_rfl) (by simp) ?_
            intro jj hjj
            simp only [List.mem_cons, List.not_mem_nil, or_false] at hjj
            subst hjj
            refine wpOp_step rfl (fun KX hKX => ?_)
            have HX := hid hKX
            clear hKX
            refine app_step (by rfl) _ _ 28 (by rfl) base 3 _ 1 8 Try.underlying28 info3 rfl (by decide) (.slice ay C.length cy) C.length (csN (C.map (·.2))) (by rfl) (by exact oy5) _ _ _ (by rfl) (by exact (r5.block _ (by first | (simp; done) | (simp; omega)) (far _ (by omega))).trans (heap_two W6 _ _).2) rfl (by intro u hu; simp at hu; subst hu; rfl) hl2 (by decide) (by first | omega | (simp; done) | (simp; omega)) ?_
            intro v2 w6 o6 r6
            have st6 := (st5).app2 hbz r6 hrY
            have ox6 : w6.ownsRow base 9 1 (.slice ao5 (C.length + 1) cp5) (C.length + 1) ((csT (C.map (·.1))) ++ [.string (M.bs ek)]) := row_keep r6 (by exact o5) (by exact oy5) (by decide)
            obtain ⟨ao6, cp6, rfl⟩ := row_form o6
            refine HX.out _ _ ⟨fun _ => hSS _ st6, ?_⟩
            clear HX
            simp only [Act.put]
            have a6 := (st6.block _ lA nAX nAY).trans gA
            have y1 := cell_of (i := 0) a6 rfl
            have y2 := cell_of (i := 1) a6 rfl
            have f1 := Lib.frozen_of_heap a6 0
            have f2 := Lib.frozen_of_heap a6 1
            have FIN := hid (two_stored (u := .slice ao5 (C.length + 1) cp5) (v := .slice ao6 (C.length + 1) cp6) a6 ox6 o6 (by decide) (by decide) st6 hbA)
            clear ox6 o6 o5 oy5 a6 st6 st5 r5 r6 ox oy gA hSS hS hS5 nAX nAY hrX hrY
            refine until_ready (rs := [19]) (by kernel_rfl) (by simp) ?_
            intro jj hjj
            simp only [List.mem_cons, List.not_mem_nil, or_false] at hjj
            subst hjj
            refine wpOp_step rfl (fun KX hKX => ?_)
            have HX := hid hKX
            clear hKX
            go_simp
            refine HX.out _ _ ⟨(fun h => by cases (Eq.trans (Eq.symm (show _ = true by kernel_rfl)) h)), ?_⟩
            clear HX
            refine until_ready (rs := [20]) (by kernel_rfl) (by simp) ?_
            intro jj hjj
            simp only [List.mem_cons, List.not_mem_nil, or_false] at hjj
            subst hjj
            refine wpOp_step rfl (fun KX hKX => ?_)
            have HX := hid hKX
            clear hKX
            go_simp
            refine HX.out _ _ ⟨(fun h => by cases (Eq.trans (Eq.symm (show _ = true by kernel_rfl)) h)), ?_⟩
            clear HX
            refine until_ready (rs := [21]) (by kernel_rfl) (by simp) ?_
            intro jj hjj
            simp only [List.mem_cons, List.not_mem_nil, or_false] at hjj
            subst hjj
            refine wpOp_step rfl (fun KX hKX => ?_)
            have HX := hid hKX
            clear hKX
            go_simp
            refine HX.out _ _ ⟨(fun h => by cases (Eq.trans (Eq.symm (show _ = true by kernel_rfl)) h)), ?_⟩
            clear HX
            refine until_done (by kernel_rfl) ⟨rfl, ?_⟩ _
            refine hKZ _ _ ?_
            obtain ⟨f1, f2, f3, f4⟩ := FIN.out
            obtain ⟨t1, t2, t3⟩ := HQ.out _ f4
            rw [hbase] at f1 f2
            generalize (w6.setCell ⟨w.heap.size + 1 + 1, 0, none⟩ (.slice ao5 (C.length + 1) cp5)).setCell ⟨w.heap.size + 1 + 1, 1, none⟩ (.slice ao6 (C.length + 1) cp6) = W9 at *
            have oN := hid (OwnM.snoc (e := (ek, ev)) f1 f2)
            clear f1 f2 f4 FIN HQ
            go_wp2_with fail
            go_roundw
            case rel => exact ⟨j + 1, _, _, by omega, by go_num, by rw [HD.out]; exact oN.out, t1, t2, f3, t3⟩
            case measure => simp [intOf]; omega
        · skip
          refine wpOp_step rfl (fun KX hKX => ?_)
          have HX := hid hKX
          clear hKX
          go_simp
          refine HX.out _ _ ⟨fun _ => hSS _ (s3 _), ?_⟩
          clear HX
          refine until_ready (rs := [7]) (by kernel_rfl) (by simp) ?_
          intro jj hjj
          simp only [List.mem_cons, List.not_mem_nil, or_false] at hjj
          subst hjj
          refine wpOp_step rfl (fun KX hKX => ?_)
          have HX := hid hKX
          clear hKX
          go_simp
          refine HX.out _ _ ⟨fun _ => hSS _ (s38 _ _), ?_⟩
          clear HX
          refine until_ready (rs := [8]) (by kernel_rfl) (by simp) ?_
          intro jj hjj
          simp only [List.mem_cons, List.not_mem_nil, or_false] at hjj
          subst hjj
          refine wpOp_step rfl (fun KX hKX => ?_)
          have HX := hid hKX
          clear hKX
          refine app_step (by rfl) _ _ 27 (by rfl) base 9 _ 1 16 Try.underlying27 info9 rfl (by decide) (.slice ax C.length cx) C.length (csT (C.map (·.1))) (by rfl) (by exact (ox.alloc _).alloc _) _ _ _ (by rfl) (by exact (heap_two W6 _ _).2) rfl (by intro u hu; simp at hu; subst hu; rfl) hl1 (by decide) (by first | omega | (simp; done) | (simp; omega)) ?_
          intro v1 w5 o5 r5
          have st5 := (s38 _ _).app1 hbz r5 hrX
          have oy5 : w5.ownsRow base 3 1 (.slice ay C.length cy) C.length (csN (C.map (·.2))) := row_keep r5 (by exact (oy.alloc _).alloc _) (by exact (ox.alloc _).alloc _) (by decide)
          obtain ⟨ao5, cp5, rfl⟩ := row_form o5
          have hS5 := hSS _ st5
          have z5 := st5.below.size
          refine HX.out _ _ ⟨fun _ => hS5, ?_⟩
          clear HX
          simp only [Act.put]
          refine take_next (i := 18) (.pointer (some ⟨w.heap.size + 1 + 1, 0, none⟩)) [19] (by kernel_rfl) (by kernel_rfl) rfl (by kernel_rfl) (by kernel_rfl) (by kernel_rfl) (by kernel_rfl) (fun _ _ _ h => absurd h.1 (by simp)) (Or.inl ⟨by rfl, fun w' hSw => by obtain ⟨h1, h2, h3, h4, h5, h6⟩ := hSw; go_simp⟩) hS5 ?_
          simp only [Act.put]
          refine until_ready (rs := [17]) (by kernel_rfl) (by simp) ?_
          intro jj hjj
          simp only [List.mem_cons, List.not_mem_nil, or_false] at hjj
          subst hjj
          refine wpOp_step rfl (fun KX hKX => ?_)
          have HX := hid hKX
          clear hKX
          refine app_step (by rfl) _ _ 28 (by rfl) base 3 _ 1 8 Try.underlying28 info3 rfl (by decide) (.slice ay C.length cy) C.length (csN (C.map (·.2))) (by rfl) (by exact oy5) _ _ _ (by rfl) (by exact (r5.block _ (by first | (simp; done) | (simp; omega)) (far _ (by omega))).trans (heap_two W6 _ _).1) rfl (by intro u hu; simp at hu; subst hu; rfl) hl2 (by decide) (by first | omega | (simp; done) | (simp; omega)) ?_
          intro v2 w6 o6 r6
          have st6 := (st5).app2 hbz r6 hrY
          have ox6 : w6.ownsRow base 9 1 (.slice ao5 (C.length + 1) cp5) (C.length + 1) ((csT (C.map (·.1))) ++ [.string (M.bs ek)]) := row_keep r6 (by exact o5) (by exact oy5) (by decide)
          obtain ⟨ao6, cp6, rfl⟩ := row_form o6
          refine HX.out _ _ ⟨fun _ => hSS _ st6, ?_⟩
          clear HX
          simp only [Act.put]
          have a6 := (st6.block _ lA nAX nAY).trans gA
          have y1 := cell_of (i := 0) a6 rfl
          have y2 := cell_of (i := 1) a6 rfl
          have f1 := Lib.frozen_of_heap a6 0
          have f2 := Lib.frozen_of_heap a6 1
          have FIN := hid (two_stored (u := .slice ao5 (C.length + 1) cp5) (v := .slice ao6 (C.length + 1) cp6) a6 ox6 o6 (by decide) (by decide) st6 hbA)
          clear ox6 o6 o5 oy5 a6 st6 st5 r5 r6 ox oy gA hSS hS hS5 nAX nAY hrX hrY
          refine until_ready (rs := [19]) (by kernel_rfl) (by simp) ?_
          intro jj hjj
          simp only [List.mem_cons, List.not_mem_nil, or_false] at hjj
          subst hjj
          refine wpOp_step rfl (fun KX hKX => ?_)
          have HX := hid hKX
          clear hKX
          go_simp
          refine HX.out _ _ ⟨(fun h => by cases (Eq.trans (Eq.symm (show _ = true by kernel_rfl)) h)), ?_⟩
          clear HX
          refine until_ready (rs := [20]) (by kernel_rfl) (by simp) ?_
          intro jj hjj
          simp only [List.mem_cons, List.not_mem_nil, or_false] at hjj
          subst hjj
          refine wpOp_step rfl (fun KX hKX => ?_)
          have HX := hid hKX
          clear hKX
          go_simp
          refine HX.out _ _ ⟨(fun h => by cases (Eq.trans (Eq.symm (show _ = true by kernel_rfl)) h)), ?_⟩
          clear HX
          refine until_ready (rs := [21]) (by kernel_rfl) (by simp) ?_
          intro jj hjj
          simp only [List.mem_cons, List.not_mem_nil, or_false] at hjj
          subst hjj
          refine wpOp_step rfl (fun KX hKX => ?_)
          have HX := hid hKX
          clear hKX
          go_simp
          refine HX.out _ _ ⟨(fun h => by cases (Eq.trans (Eq.symm (show _ = true by kernel_rfl)) h)), ?_⟩
          clear HX
          refine until_done (by kernel_rfl) ⟨rfl, ?_⟩ _
          refine hKZ _ _ ?_
          obtain ⟨f1, f2, f3, f4⟩ := FIN.out
          obtain ⟨t1, t2, t3⟩ := HQ.out _ f4
          rw [hbase] at f1 f2
          generalize (w6.setCell ⟨w.heap.size + 1 + 1, 0, none⟩ (.slice ao5 (C.length + 1) cp5)).setCell ⟨w.heap.size + 1 + 1, 1, none⟩ (.slice ao6 (C.length + 1) cp6) = W9 at *
          have oN := hid (OwnM.snoc (e := (ek, ev)) f1 f2)
          clear f1 f2 f4 FIN HQ
          go_wp2_with fail
          go_roundw
          case rel => exact ⟨j + 1, _, _, by omega, by go_num, by rw [HD.out]; exact oN.out, t1, t2, f3, t3⟩
          case measure => simp [intOf]; omega
    · have HF : Hid (M.rdel (R.take j) k = M.rdel R k) := by show _ = _; rw [List.take_of_length_le (by omega)]
      obtain ⟨C, hC⟩ : ∃ C, M.rdel R k = C := ⟨_, rfl⟩
      rw [HF.out, hC] at hown
      have HC := hid hC
      clear HF hC
      obtain ⟨ax, cx, rfl⟩ := row_form hown.1
      obtain ⟨ay, cy, rfl⟩ := row_form hown.2
      have GR := hid gr
      have OW := hid hown
      have HB := hid hb
      have o0 := cell_of (i := 0) go rfl
      have o1 := cell_of (i := 1) go rfl
      have y0 := Lib.frozen_of_heap gr 0
      have y1 := Lib.frozen_of_heap gr 1
      have r0 := cell_of (i := 0) gr rfl
      have r1 := cell_of (i := 1) gr rfl
      clear gm gr go hown hb hs
      go_wp2_with fail
      clear o0 o1 y0 y1 r0 r1 m0 m1
      have nx := row_ne OW.out.1 GR.out (by decide)
      have ny := row_ne OW.out.2 GR.out (by decide)
      have f1 := row_stored (i := 0) (j := 1) (u1 := .slice ax C.length cx) (u2 := .slice ay C.length cy) OW.out.1 nx nx
      have f2 := row_stored (i := 0) (j := 1) (u1 := .slice ax C.length cx) (u2 := .slice ay C.length cy) OW.out.2 ny ny
      have f3 : C2 _ (w.heap.size + 1) _ _ := C2.both (.slice ax C.length cx) (.slice ay C.length cy) GR.out
      have f4 : Bel w ((wr.setCell ⟨w.heap.size + 1, 0, none⟩ (.slice ax C.length cx)).setCell ⟨w.heap.size + 1, 1, none⟩ (.slice ay C.length cy)) := Below.setCell (Below.setCell HB.out (by simp) _) (by simp) _
      generalize (wr.setCell ⟨w.heap.size + 1, 0, none⟩ (.slice ax C.length cx)).setCell ⟨w.heap.size + 1, 1, none⟩ (.slice ay C.length cy) = W9 at *
      have z0 := cell_of (i := 0) f3 rfl
      have z1 := cell_of (i := 1) f3 rfl
      refine bodyPost_ret (v := .agg #[.slice ax C.length cx, .slice ay C.length cy]) (by simp [results, Try.results10, go_sem, z0, z1]) rfl ?_
      exact ⟨_, _, rfl, by rw [HC.out]; exact ⟨f1, f2⟩, f4⟩
end Go.Proofs.Ytoelaemneoabfab
