/-
  The reference of layer 3: New, walked.
-/
import Derived.Test.YtoelaemneoabfaaRN
import Derived.Test.YtoelaemneoabfaaQU
import Derived.Test.YtoelaemneoabfaaQA
namespace Go.Proofs.Ytoelaemneoabfaa
open Go.RowKit
set_option maxRecDepth 100000

abbrev N6 : List Value := [.slice none 0 0, .slice none 0 0, .bool false, .int .i64 0, .slice none 0 0, .int .i64 0]
/-- New, m rounds done. -/
structure FN (w : World) (m : Nat) (v : Value) (wr : World) : Prop where
  box : Blk wr (w.heap.size + 1) #[v, .slice none 0 0, .slice none 0 0, .bool false, .int .i64 0, .slice none 0 0, .int .i64 0] 31
  out : Blk wr w.heap.size #[.slice none 0 0, .slice none 0 0, .slice none 0 0, .bool false, .int .i64 0, .slice none 0 0, .int .i64 0] 31
  row : wr.ownsRow w.heap.size 9 1 v m (csT (List.replicate m (pad [])))
  below : Bel w wr
theorem FN.bel {w wr wr' : World} {m : Nat} {v : Value} (h : FN w m v wr) (k : Bel wr wr') : FN w m v wr' :=
  ⟨h.box.below k h.box.lt, h.out.below k h.out.lt, own_kept h.row k, h.below.tr k⟩
theorem FN.start (w : World) : FN w 0 (.slice none 0 0) ((w.alloc (.cells #[.slice none 0 0, .slice none 0 0, .slice none 0 0, .bool false, .int .i64 0, .slice none 0 0, .int .i64 0] 31)).alloc (.cells #[.slice none 0 0, .slice none 0 0, .slice none 0 0, .bool false, .int .i64 0, .slice none 0 0, .int .i64 0] 31)) := by
  obtain ⟨h1, h2⟩ := heap_two w (.cells #[.slice none 0 0, .slice none 0 0, .slice none 0 0, .bool false, .int .i64 0, .slice none 0 0, .int .i64 0] 31) (.cells #[.slice none 0 0, .slice none 0 0, .slice none 0 0, .bool false, .int .i64 0, .slice none 0 0, .int .i64 0] 31)
  exact ⟨h2, h1, ⟨rfl, .inl ⟨rfl, rfl⟩⟩, Bel.al (Bel.al (Below.refl _ _) _) _⟩
/-- One more. -/
theorem FN.next {w wr w6 w7 : World} {m : Nat} {v v' : Value} (h : FN w m v wr) (k : Bel wr w6) (ho : w7.ownsRow w.heap.size 9 1 v' (m + 1) (csT (List.replicate m (pad [])) ++ [.string (M.bs (pad []))])) (g : w6.grownBy w7 v.ownBlock) :
    FN w (m + 1) v' (w7.setCell ⟨w.heap.size + 1, 0, none⟩ v') := by
  have h6 := h.bel k
  have n1 := row_ne h6.row h6.box (by decide)
  have n2 := row_ne h6.row h6.out (by decide)
  have b7 : Blk w7 (w.heap.size + 1) _ 31 := (g.block _ h6.box.lt n1).trans h6.box
  have o7 : Blk w7 w.heap.size _ 31 := (g.block _ h6.out.lt n2).trans h6.out
  have ks := (Keep.refl (fun j => j ≠ w.heap.size + 1) w7).set (p := ⟨w.heap.size + 1, 0, none⟩) (by simp) v'
  refine ⟨?_, (ks.block _ (by omega)).trans o7, ?_, ?_⟩
  · have z := b7.set 0 v'
    simpa using z
  · rw [List.replicate_succ']
    have n3 := row_ne ho b7 (by decide)
    exact ownsRow_setCell_other (a := ⟨w.heap.size + 1, 0, none⟩) (by simpa [csT] using ho) (fun e => n3 e.symm) v'
  · exact Below.setCell (h6.below.grown g (by have := h6.out.lt; omega) (fun k hk => (h6.row.lt k hk).1)) (by simp) v'
theorem FN.cell {w wr : World} {m : Nat} {v : Value} (h : FN w m v wr) : wr.cell? ⟨w.heap.size + 1, 0, none⟩ = some v := by rw [h.box.cell]; rfl
theorem wp_normal {P : Program} {s : Code} {K : Go.Act → World → Prop} {Q : Exit → Go.Act → World → Prop} {a : Go.Act} {w : World} (h : s.wp P (fun e a w => e = .normal ∧ K a w) a w) : s.wp P (Exit.then K Q) a w :=
  wp_mono h (by rintro e a w ⟨rfl, h⟩; exact h)
theorem wp_last {P : Program} {s : Code} {Q : Exit → Go.Act → World → Prop} {a : Go.Act} {w : World} (h : ∀ K : Go.Act → World → Prop, (∀ a' w', Q .normal a' w' → K a' w') → s.wp P (fun e a w => e = .normal ∧ K a w) a w) : s.wp P Q a w := by
  refine wp_mono (h (Q .normal) (fun _ _ q => q)) ?_
  rintro e a' w' ⟨rfl, hq⟩
  exact hq
set_option maxHeartbeats 8000000 in
theorem rNew_any (n : Nat) (w : World) (hn : n ≤ 100) :
    Calls Try.prog 10 #[.int .i64 n] w fun e w' => ∃ v, e = .returned (.agg #[v, .slice none 0 0, .slice none 0 0, .bool false, .int .i64 0, .slice none 0 0, .int .i64 0]) ∧ Bel w w' ∧ w'.ownsRow w.heap.size 9 1 v n (csT (List.replicate n (pad []))) := by
  have hfull : ∀ w, Calls Try.prog 25 #[.string ⟨#[]⟩] w fun e w' => e = .returned (.string (M.bs (pad []))) ∧ Bel w w' := fun w => full_any [] w (by simp)
  have HS := hid (FN.start w)
  go_enter Try.func10, Try.ntmps10
  go_wp2_with fail
  go_loopw [4] (fun i wr => ∃ (m : Nat) (v : Value), m ≤ n ∧ i = .int .i64 m ∧ Hid (FN w m v wr)) (fun i _ => n - (intOf i).toNat)
  case atStart => exact ⟨0, _, by omega, rfl, HS⟩
  case round =>
    obtain ⟨m, v, hm, rfl, HI⟩ := hrel
    by_cases hlt : m < n
    · have hml : (m : Int) < (n : Int) := by omega
      go_wp2_with fail
      refine wp_last fun KL hKL => ?_
      have HL := hid hKL
      clear hKL
      refine region_until (S := fun W : World => W.cell? ⟨w.heap.size + 1, 0, none⟩ = some v) (m := 6) (by kernel_rfl) ?_
      have b6 : Bel wr wr.drew := Bel.dr (Below.refl _ _)
      have H6 := hid (HI.out.bel b6)
      clear HI b6 HS
      generalize wr.drew = W6 at *
      have hS := H6.out.cell
      refine take_next (i := 0) (.pointer (some ⟨w.heap.size + 1, 0, none⟩)) [1, 4, 6] (by kernel_rfl) (by kernel_rfl) rfl (by kernel_rfl) (by kernel_rfl) (by kernel_rfl) (by kernel_rfl) (fun _ _ _ h => absurd h.1 (by simp)) (Or.inl ⟨by rfl, fun w' hSw => by go_simp⟩) hS ?_
      simp only [Act.put]
      refine take_next (i := 1) v [4, 6] (by kernel_rfl) (by kernel_rfl) rfl (by kernel_rfl) (by kernel_rfl) (by kernel_rfl) (by kernel_rfl) (fun _ _ _ h => absurd h.1 (by simp)) (Or.inl ⟨by rfl, fun w' hSw => by go_simp⟩) hS ?_
      simp only [Act.put]
      refine until_ready (rs := [2]) (by kernel_rfl) (by simp) ?_
      intro jj hjj
      simp only [List.mem_cons, List.not_mem_nil, or_false] at hjj
      subst hjj
      refine wpOp_step rfl (fun KX hKX => ?_)
      have HX := hid hKX
      clear hKX
      go_simp
      refine (hfull _).mono ?_
      rintro e w7 ⟨rfl, k7⟩
      have H7 := hid (H6.out.bel k7)
      have hS7 := H7.out.cell
      refine HX.out _ _ ⟨fun _ => hS7, ?_⟩
      clear HX k7 H6 hS
      try simp only [Act.put]
      refine until_ready (rs := [3]) (by kernel_rfl) (by simp) ?_
      intro jj hjj
      simp only [List.mem_cons, List.not_mem_nil, or_false] at hjj
      subst hjj
      refine wpOp_step rfl (fun KX hKX => ?_)
      have HX := hid hKX
      clear hKX
      go_simp
      have k8 : Bel w7 (w7.alloc (.cells #[.string (M.bs (pad []))] 9)) := Bel.al (Below.refl _ _) _
      refine HX.out _ _ ⟨fun _ => (H7.out.bel k8).cell, ?_⟩
      clear HX
      try simp only [Act.put]
      refine until_ready (rs := [4]) (by kernel_rfl) (by simp) ?_
      intro jj hjj
      simp only [List.mem_cons, List.not_mem_nil, or_false] at hjj
      subst hjj
      refine wpOp_step rfl (fun KX hKX => ?_)
      have HX := hid hKX
      clear hKX
      refine app_step (by rfl) _ _ 28 (by rfl) w.heap.size 9 _ 1 16 Try.underlying28 info9 rfl (by decide) v m (csT (List.replicate m (pad []))) (by rfl) (by exact (H7.out.bel k8).row) _ _ _ (by rfl) (by exact heap_alloc_new w7 _) rfl (by intro u hu; simp at hu; subst hu; rfl) (by omega) (by decide) (by have := H7.out.below.size; simp; omega) ?_
      intro v9 w9 o9 g9
      have HN := hid (H7.out.next k8 o9 g9)
      have c9 : w9.cell? ⟨w.heap.size + 1, 0, none⟩ = some v := by
        have h8 := H7.out.bel k8
        have b9 : Blk w9 (w.heap.size + 1) _ 31 := (g9.block _ h8.box.lt (row_ne h8.row h8.box (by decide))).trans h8.box
        rw [b9.cell]; rfl
      have f9 : w9.frozen? ⟨w.heap.size + 1, 0, none⟩ = false := by
        have h8 := H7.out.bel k8
        have b9 : Blk w9 (w.heap.size + 1) _ 31 := (g9.block _ h8.box.lt (row_ne h8.row h8.box (by decide))).trans h8.box
        exact b9.frozen 0
      obtain ⟨a9, cap9, rfl⟩ := row_form o9
      refine HX.out _ _ ⟨fun _ => c9, ?_⟩
      clear HX k8 o9 g9 hS7 H7
      try simp only [Act.put]
      refine until_ready (rs := [5]) (by kernel_rfl) (by simp) ?_
      intro jj hjj
      simp only [List.mem_cons, List.not_mem_nil, or_false] at hjj
      subst hjj
      refine wpOp_step rfl (fun KX hKX => ?_)
      have HX := hid hKX
      clear hKX
      go_simp
      refine HX.out _ _ ⟨fun _ => c9, ?_⟩
      clear HX
      try simp only [Act.put]
      refine until_ready (rs := [6]) (by kernel_rfl) (by simp) ?_
      intro jj hjj
      simp only [List.mem_cons, List.not_mem_nil, or_false] at hjj
      subst hjj
      refine wpOp_step rfl (fun KX hKX => ?_)
      have HX := hid hKX
      clear hKX
      go_simp
      refine HX.out _ _ ⟨(fun h => by cases (Eq.trans (Eq.symm (show _ = true by kernel_rfl)) h)), ?_⟩
      clear HX
      refine until_done (by kernel_rfl) ⟨rfl, ?_⟩ _
      refine HL.out _ _ ?_
      clear HL
      go_wp2_with fail
      go_roundw
      case rel => exact ⟨m + 1, _, by omega, by go_num, HN⟩
      case measure => simp [intOf]; omega
    · obtain rfl : m = n := by omega
      have c0 := HI.out.box.cell 0
      have d0 := HI.out.out.cell 0
      have e0 := HI.out.out.frozen 0
      have c1 := HI.out.box.cell 1
      have d1 := HI.out.out.cell 1
      have e1 := HI.out.out.frozen 1
      have c2 := HI.out.box.cell 2
      have d2 := HI.out.out.cell 2
      have e2 := HI.out.out.frozen 2
      have c3 := HI.out.box.cell 3
      have d3 := HI.out.out.cell 3
      have e3 := HI.out.out.frozen 3
      have c4 := HI.out.box.cell 4
      have d4 := HI.out.out.cell 4
      have e4 := HI.out.out.frozen 4
      have c5 := HI.out.box.cell 5
      have d5 := HI.out.out.cell 5
      have e5 := HI.out.out.frozen 5
      have c6 := HI.out.box.cell 6
      have d6 := HI.out.out.cell 6
      have e6 := HI.out.out.frozen 6
      simp at c0 c1 c2 c3 c4 c5 c6 d0 d1 d2 d3 d4 d5 d6
      have HO := HI.out
      obtain ⟨av, cv, rfl⟩ := row_form HI.out.row
      clear HS
      go_wp2_with fail
      have B7 := blk7 HO.out (.slice av m cv) (.slice none 0 0) (.slice none 0 0) (.bool false) (.int .i64 0) (.slice none 0 0) (.int .i64 0)
      simp only [World.setCells] at B7
      have n1 := row_ne HO.row HO.out (by decide)
      have R7 : Hid ((((((((wr.setCell ⟨w.heap.size, 0, none⟩ (.slice av m cv)).setCell ⟨w.heap.size, 1, none⟩ (.slice none 0 0)).setCell ⟨w.heap.size, 2, none⟩ (.slice none 0 0)).setCell ⟨w.heap.size, 3, none⟩ (.bool false)).setCell ⟨w.heap.size, 4, none⟩ (.int .i64 0)).setCell ⟨w.heap.size, 5, none⟩ (.slice none 0 0)).setCell ⟨w.heap.size, 6, none⟩ (.int .i64 0)).ownsRow w.heap.size 9 1 (.slice av m cv) m (csT (List.replicate m (pad [])))) :=
        ownsRow_setCell_other (ownsRow_setCell_other (ownsRow_setCell_other (ownsRow_setCell_other (ownsRow_setCell_other (ownsRow_setCell_other (ownsRow_setCell_other HO.row (fun e => n1 e.symm) _) (fun e => n1 e.symm) _) (fun e => n1 e.symm) _) (fun e => n1 e.symm) _) (fun e => n1 e.symm) _) (fun e => n1 e.symm) _) (fun e => n1 e.symm) _
      have K7 : Hid (Bel w (((((((wr.setCell ⟨w.heap.size, 0, none⟩ (.slice av m cv)).setCell ⟨w.heap.size, 1, none⟩ (.slice none 0 0)).setCell ⟨w.heap.size, 2, none⟩ (.slice none 0 0)).setCell ⟨w.heap.size, 3, none⟩ (.bool false)).setCell ⟨w.heap.size, 4, none⟩ (.int .i64 0)).setCell ⟨w.heap.size, 5, none⟩ (.slice none 0 0)).setCell ⟨w.heap.size, 6, none⟩ (.int .i64 0))) :=
        Below.setCell (Below.setCell (Below.setCell (Below.setCell (Below.setCell (Below.setCell (Below.setCell HO.below (by simp) _) (by simp) _) (by simp) _) (by simp) _) (by simp) _) (by simp) _) (by simp) _
      clear HO n1 c0 c1 c2 c3 c4 c5 c6 d0 d1 d2 d3 d4 d5 d6 e0 e1 e2 e3 e4 e5 e6
      simp only [Nat.zero_add, Nat.reduceAdd] at B7
      generalize (((((((wr.setCell ⟨w.heap.size, 0, none⟩ (.slice av m cv)).setCell ⟨w.heap.size, 1, none⟩ (.slice none 0 0)).setCell ⟨w.heap.size, 2, none⟩ (.slice none 0 0)).setCell ⟨w.heap.size, 3, none⟩ (.bool false)).setCell ⟨w.heap.size, 4, none⟩ (.int .i64 0)).setCell ⟨w.heap.size, 5, none⟩ (.slice none 0 0)).setCell ⟨w.heap.size, 6, none⟩ (.int .i64 0)) = W at *
      refine bodyPost_ret (results_cell_row (t := 31) (fr := (0, 0)) (p := 2) (ty := 31) rfl _ W w.heap.size _ _ rfl B7 (by rfl) rfl (by rw [info31]; rfl)) rfl ?_
      exact ⟨_, rfl, K7.out, R7.out⟩
end Go.Proofs.Ytoelaemneoabfaa
