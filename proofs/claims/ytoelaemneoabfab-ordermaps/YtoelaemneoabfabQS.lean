/-
  The contract of the document's own Set for layer 4, walked.
-/
import Derived.Test.YtoelaemneoabfabQD
namespace Go.Proofs.Ytoelaemneoabfab
open Go.RowKit
set_option maxRecDepth 100000
theorem row_base {base base' n k : Nat} {e : TypeId} {W : World} {v : Value} {xs : List Value} (h : W.ownsRow base e k v n xs) (hb : base' ≤ base) : W.ownsRow base' e k v n xs := by
  refine ⟨h.1, ?_⟩
  rcases h.2 with hn | ⟨g, cap, cur, hv, hg, r⟩
  · exact .inl hn
  · exact .inr ⟨g, cap, cur, hv, Nat.le_trans hb hg, r⟩
theorem rset_end {w W9 : World} {base : Nat} {R' C : M.Rm} {e : M.Tk × Int} {ao5 ao6 : Option Addr} {n cp5 cp6 : Nat} {a : Act} (hbase : base = w.heap.size + 1 + 1) (ow : OwnM W9 base (.slice ao5 n cp5) (.slice ao6 n cp6) (C ++ [e])) (t1 : C2 W9 (w.heap.size + 1) (.slice none 0 0) (.slice none 0 0)) (t2 : Bel w W9) (hc : R' = C ++ [e])
    (ha : a.tmps[6]? = some (.pointer (some ⟨w.heap.size + 1, 0, none⟩))) (hd : a.defers = []) :
    bodyPost Try.prog Try.f12 (fun e w' => ∃ x y, e = .returned (.agg #[x, y]) ∧ OwnM w' w.heap.size x y R' ∧ Bel w w') .ret a ((W9.setCell ⟨w.heap.size + 1, 0, none⟩ (.slice ao5 n cp5)).setCell ⟨w.heap.size + 1, 1, none⟩ (.slice ao6 n cp6)) := by
  have nx := row_ne ow.1 t1 (by decide)
  have ny := row_ne ow.2 t1 (by decide)
  have f1 := row_stored (i := 0) (j := 1) (u1 := .slice ao5 n cp5) (u2 := .slice ao6 n cp6) ow.1 nx nx
  have f2 := row_stored (i := 0) (j := 1) (u1 := .slice ao5 n cp5) (u2 := .slice ao6 n cp6) ow.2 ny ny
  have f3 : C2 _ (w.heap.size + 1) _ _ := C2.both (.slice ao5 n cp5) (.slice ao6 n cp6) t1
  have f4 : Bel w ((W9.setCell ⟨w.heap.size + 1, 0, none⟩ (.slice ao5 n cp5)).setCell ⟨w.heap.size + 1, 1, none⟩ (.slice ao6 n cp6)) := Below.setCell (Below.setCell t2 (by simp) _) (by simp) _
  generalize (W9.setCell ⟨w.heap.size + 1, 0, none⟩ (.slice ao5 n cp5)).setCell ⟨w.heap.size + 1, 1, none⟩ (.slice ao6 n cp6) = W at *
  have z0 := cell_of (i := 0) f3 rfl
  have z1 := cell_of (i := 1) f3 rfl
  have ha' : a.tmps[6]?.getD undef = .pointer (some ⟨w.heap.size + 1, 0, none⟩) := by rw [ha]; rfl
  refine bodyPost_ret (v := .agg #[.slice ao5 n cp5, .slice ao6 n cp6]) (by simp [results, Try.results12, go_sem, z0, z1, ha']) hd ?_
  exact ⟨_, _, rfl, by rw [hc]; exact ⟨row_base f1 (by omega), row_base f2 (by omega)⟩, f4⟩
set_option maxHeartbeats 16000000 in
theorem rsetS (R : M.Rm) (k : M.Tk) (v : Int) (kv vv : Value) (w : World) (hR : R.length ≤ 1000) (h : ShowM w kv vv R) :
    Calls Try.prog 12 #[.agg #[kv, vv], .string (M.bs k), .int .i64 v] w fun e w' => ∃ x y, e = .returned (.agg #[x, y]) ∧ OwnM w' w.heap.size x y (M.rset R k v) ∧ Bel w w' := by
  have hcl : (M.rdel R k).length ≤ 1000 := by
    have := List.length_filter_le (fun e : M.Tk × Int => decide (e.1 ≠ k)) R
    unfold M.rdel; omega
  have HD := fun W h => rdelS R k kv vv W hR h
  have HCS : Hid (M.rset R k v = M.rdel R k ++ [(k, v)]) := rfl
  generalize M.rdel R k = C at *
  have hh := h
  obtain ⟨a, c, a', c', rfl, rfl, _⟩ := h
  have b1 : Bel w ((w.alloc (.cells #[.slice a R.length c, .slice a' R.length c'] 30)).alloc (.cells #[.slice none 0 0, .slice none 0 0] 30)) := Bel.al (Bel.al (Below.refl _ _) _) _
  have gm : C2 ((w.alloc (.cells #[.slice a R.length c, .slice a' R.length c'] 30)).alloc (.cells #[.slice none 0 0, .slice none 0 0] 30)) w.heap.size (.slice a R.length c) (.slice a' R.length c') :=
    (Below.heap_alloc _ _ _ (by simp)).trans (heap_alloc_new w _)
  have gr : C2 ((w.alloc (.cells #[.slice a R.length c, .slice a' R.length c'] 30)).alloc (.cells #[.slice none 0 0, .slice none 0 0] 30)) (w.heap.size + 1) (.slice none 0 0) (.slice none 0 0) := by
    have := heap_alloc_new (w.alloc (.cells #[.slice a R.length c, .slice a' R.length c'] 30)) (.cells #[.slice none 0 0, .slice none 0 0] 30)
    rw [World.size_alloc] at this
    exact this
  have hz : ((w.alloc (.cells #[.slice a R.length c, .slice a' R.length c'] 30)).alloc (.cells #[.slice none 0 0, .slice none 0 0] 30)).heap.size = w.heap.size + 1 + 1 := by simp
  have m0 := cell_of (i := 0) gm rfl
  have m1 := cell_of (i := 1) gm rfl
  go_enter Try.func12, Try.ntmps12
  go_wp2_with fail
  generalize (w.alloc (.cells #[.slice a R.length c, .slice a' R.length c'] 30)).alloc (.cells #[.slice none 0 0, .slice none 0 0] 30) = W1 at *
  refine (HD _ (hh.bel b1)).mono ?_
  rintro e w2 ⟨x, y, rfl, hown, b2⟩
  rw [hz] at hown
  obtain ⟨ax, cx, rfl⟩ := row_form hown.1
  obtain ⟨ay, cy, rfl⟩ := row_form hown.2
  have hz2 := b2.size
  rw [hz] at hz2
  have b3 : Bel w2 (w2.alloc (.cells #[.slice ax C.length cx, .slice ay C.length cy] 30)) := Bel.al (Below.refl _ _) _
  have GO3 := hid (show C2 (w2.alloc (.cells #[.slice ax C.length cx, .slice ay C.length cy] 30)) w2.heap.size (.slice ax C.length cx) (.slice ay C.length cy) from heap_alloc_new w2 _)
  have GR3 := hid ((gr.bel b2).bel b3)
  have OW3 := hid (hown.bel b3)
  have HB3 := hid ((b1.tr b2).tr b3)
  clear hown gm gr m0 m1 HD hh b3 b2 b1
  go_wp2_with fail
  generalize w2.alloc (.cells #[.slice ax C.length cx, .slice ay C.length cy] 30) = W3 at *
  have hl1 : C.length ≤ 100000 := by omega
  have hl2 := hl1
  have b6 : Bel W3 W3.drew := Bel.dr (Below.refl _ _)
  have hb6 := HB3.out.tr b6
  have ox := (OW3.out.bel b6).1
  have oy := (OW3.out.bel b6).2
  have gR := (b6.block _ GR3.out.lt).trans GR3.out
  have gA := (b6.block _ GO3.out.lt).trans GO3.out
  refine wp_normal ?_
  refine region_until (S := fun W : World => W.cell? ⟨w2.heap.size, 0, none⟩ = some (.slice ax C.length cx) ∧ W.cell? ⟨w2.heap.size, 1, none⟩ = some (.slice ay C.length cy)) (m := 11) (by kernel_rfl) ?_
  generalize W3.drew = W6 at b6 hb6 ox oy gR gA ⊢
  obtain ⟨base, hbase⟩ : ∃ base, base = w.heap.size + 1 + 1 := ⟨_, rfl⟩
  have hbz : base ≤ W6.heap.size := by have := (Array.getElem?_eq_some_iff.1 gA).1; omega
  rw [← hbase] at ox oy
  have hrX : ∀ k, (Value.slice ax C.length cx).ownBlock = some k → base ≤ k := fun k hk => (World.ownsRow.lt ox k hk).1
  have hrY : ∀ k, (Value.slice ay C.length cy).ownBlock = some k → base ≤ k := fun k hk => (World.ownsRow.lt oy k hk).1
  have lA := (Array.getElem?_eq_some_iff.1 gA).1
  have nAX := row_ne ox gA (by decide)
  have nAY := row_ne oy gA (by decide)
  have hbA : base ≤ w2.heap.size := by omega
  have hSS : ∀ W, Stays base (.slice ax C.length cx) (.slice ay C.length cy) W6 W → (W.cell? ⟨w2.heap.size, 0, none⟩ = some (.slice ax C.length cx) ∧ W.cell? ⟨w2.heap.size, 1, none⟩ = some (.slice ay C.length cy)) := fun W h => by
    have a1 := (h.block _ lA nAX nAY).trans gA
    exact ⟨cell_of a1 rfl, cell_of a1 rfl⟩
  have HQ : Hid (∀ W, Stored base (.slice ax C.length cx) (.slice ay C.length cy) (w2.heap.size) (w2.heap.size) W6 W → C2 W (w.heap.size + 1) (.slice none 0 0) (.slice none 0 0) ∧ Bel w W) := fun W h =>
    ⟨(h.block _ (Array.getElem?_eq_some_iff.1 gR).1 (row_ne ox gR (by decide)) (row_ne oy gR (by decide)) (by omega) (by omega)).trans gR, hb6.trans (h.below.mono (by omega))⟩
  have hS := hSS _ (Stays.refl _ _ _ _)
  have s3 : ∀ o, Stays base (.slice ax C.length cx) (.slice ay C.length cy) W6 (W6.alloc o) := fun o => (Stays.refl _ _ _ _).al hbz o
  have s38 : ∀ o o', Stays base (.slice ax C.length cx) (.slice ay C.length cy) W6 ((W6.alloc o).alloc o') := fun o o' => (s3 o).al hbz o'
  have far : ∀ i, W6.heap.size ≤ i → some i ≠ (Value.slice ax C.length cx).ownBlock := fun i hi e => by have := (World.ownsRow.lt ox i e.symm).2; omega
  refine take_next (i := 0) (.pointer (some ⟨w2.heap.size, 0, none⟩)) [1, 4, 11] (by kernel_rfl) (by kernel_rfl) rfl (by kernel_rfl) (by kernel_rfl) (by kernel_rfl) (by kernel_rfl) (fun _ _ _ h => absurd h.1 (by simp)) (Or.inl ⟨by rfl, fun w' hSw => by obtain ⟨h1, h2⟩ := hSw; go_simp⟩) hS ?_
  simp only [Act.put]
  refine take_next (i := 1) ((.slice ax C.length cx)) [4, 11] (by kernel_rfl) (by kernel_rfl) rfl (by kernel_rfl) (by kernel_rfl) (by kernel_rfl) (by kernel_rfl) (fun _ _ _ h => absurd h.1 (by simp)) (Or.inl ⟨by rfl, fun w' hSw => by obtain ⟨h1, h2⟩ := hSw; go_simp⟩) hS ?_
  simp only [Act.put]
  refine take_next (i := 2) (.string (M.bs k)) [3, 4, 11] (by kernel_rfl) (by kernel_rfl) rfl (by kernel_rfl) (by kernel_rfl) (by kernel_rfl) (by kernel_rfl) (fun _ _ _ h => absurd h.1 (by simp)) (Or.inl ⟨by rfl, fun w' hSw => by obtain ⟨h1, h2⟩ := hSw; go_simp⟩) hS ?_
  simp only [Act.put]
  refine take_next (i := 5) (.pointer (some ⟨w2.heap.size, 1, none⟩)) [6, 9, 11] (by kernel_rfl) (by kernel_rfl) rfl (by kernel_rfl) (by kernel_rfl) (by kernel_rfl) (by kernel_rfl) (fun _ _ _ h => absurd h.1 (by simp)) (Or.inl ⟨by rfl, fun w' hSw => by obtain ⟨h1, h2⟩ := hSw; go_simp⟩) hS ?_
  simp only [Act.put]
  refine take_next (i := 6) ((.slice ay C.length cy)) [9, 11] (by kernel_rfl) (by kernel_rfl) rfl (by kernel_rfl) (by kernel_rfl) (by kernel_rfl) (by kernel_rfl) (fun _ _ _ h => absurd h.1 (by simp)) (Or.inl ⟨by rfl, fun w' hSw => by obtain ⟨h1, h2⟩ := hSw; go_simp⟩) hS ?_
  simp only [Act.put]
  refine take_next (i := 7) (.int .i64 v) [8, 9, 11] (by kernel_rfl) (by kernel_rfl) rfl (by kernel_rfl) (by kernel_rfl) (by kernel_rfl) (by kernel_rfl) (fun _ _ _ h => absurd h.1 (by simp)) (Or.inl ⟨by rfl, fun w' hSw => by obtain ⟨h1, h2⟩ := hSw; go_simp⟩) hS ?_
  simp only [Act.put]
  refine until_ready (rs := [3, 8]) (by kernel_rfl) (by simp) ?_
  intro jj hjj
  simp only [List.mem_cons, List.not_mem_nil, or_false] at hjj
  rcases hjj with rfl | rfl
  · skip
    refine wpOp_step rfl (fun KX hKX => ?_)
    have HX := hid hKX
    clear hKX
    go_simp
    refine HX.out _ _ ⟨fun _ => hSS _ (s3 _), ?_⟩
    clear HX
    refine until_ready (rs := [4, 8]) (by kernel_rfl) (by simp) ?_
    intro jj hjj
    simp only [List.mem_cons, List.not_mem_nil, or_false] at hjj
    rcases hjj with rfl | rfl
    · skip
      refine wpOp_step rfl (fun KX hKX => ?_)
      have HX := hid hKX
      clear hKX
      refine app_step (by rfl) _ _ 27 (by rfl) base 9 _ 1 16 Try.underlying27 info9 rfl (by decide) (.slice ax C.length cx) C.length (csT (C.map (·.1))) (by rfl) (by exact ox.alloc _) _ _ _ (by rfl) (by exact heap_alloc_new W6 _) rfl (by intro u hu; simp at hu; subst hu; rfl) hl1 (by decide) (by first | omega | (simp; done) | (simp; omega)) ?_
      intro v1 w5 o5 r5
      have st5 := (s3 _).app1 hbz r5 hrX
      have oy5 : w5.ownsRow base 3 1 (.slice ay C.length cy) C.length (csN (C.map (·.2))) := row_keep r5 (by exact oy.alloc _) (by exact ox.alloc _) (by decide)
      obtain ⟨ao5, cp5, rfl⟩ := row_form o5
      have hS5 := hSS _ st5
      have z5 := st5.below.size
      refine HX.out _ _ ⟨fun _ => hS5, ?_⟩
      clear HX
      simp only [Act.put]
      refine take_next (i := 10) (.pointer (some ⟨w2.heap.size, 0, none⟩)) [11] (by kernel_rfl) (by kernel_rfl) rfl (by kernel_rfl) (by kernel_rfl) (by kernel_rfl) (by kernel_rfl) (fun _ _ _ h => absurd h.1 (by simp)) (Or.inl ⟨by rfl, fun w' hSw => by obtain ⟨h1, h2⟩ := hSw; go_simp⟩) hS5 ?_
      simp only [Act.put]
      refine until_ready (rs := [8]) (by kernel_rfl) (by simp) ?_
      intro jj hjj
      simp only [List.mem_cons, List.not_mem_nil, or_false] at hjj
      subst hjj
      refine wpOp_step rfl (fun KX hKX => ?_)
      have HX := hid hKX
      clear hKX
      go_simp
      refine HX.out _ _ ⟨fun _ => hSS _ (st5.al hbz _), ?_⟩
      clear HX
      refine until_ready (rs := [9]) (by kernel_rfl) (by simp) ?_
      intro jj hjj
      simp only [List.mem_cons, List.not_mem_nil, or_false] at hjj
      subst hjj
      refine wpOp_step rfl (fun KX hKX => ?_)
      have HX := hid hKX
      clear hKX
      refine app_step (by rfl) _ _ 28 (by rfl) base 3 _ 1 8 Try.underlying28 info3 rfl (by decide) (.slice ay C.length cy) C.length (csN (C.map (·.2))) (by rfl) (by exact oy5.alloc _) _ _ _ (by rfl) (by exact heap_alloc_new w5 _) rfl (by intro u hu; simp at hu; subst hu; rfl) hl2 (by decide) (by first | omega | (simp; done) | (simp; omega)) ?_
      intro v2 w6 o6 r6
      have st6 := (st5.al hbz _).app2 hbz r6 hrY
      have ox6 : w6.ownsRow base 9 1 (.slice ao5 (C.length + 1) cp5) (C.length + 1) ((csT (C.map (·.1))) ++ [.string (M.bs k)]) := row_keep r6 (by exact o5.alloc _) (by exact oy5.alloc _) (by decide)
      obtain ⟨ao6, cp6, rfl⟩ := row_form o6
      refine HX.out _ _ ⟨fun _ => hSS _ st6, ?_⟩
      clear HX
      simp only [Act.put]
      have a6 := (st6.block _ lA nAX nAY).trans gA
      have y1 := cell_of (i := 0) a6 rfl
      have y2 := cell_of (i := 1) a6 rfl
      have f1 := Lib.frozen_of_heap a6 0
      have f2 := Lib.frozen_of_heap a6 1
      have FIN := hid (two_stored (u := .slice ao5 (C.length + 1) cp5) (v := .slice ao6 (C.length + 1) cp6) a6 ox6 o6 (by decide) (by decide) st6 hbA)
      clear ox6 o6 o5 oy5 a6 st6 st5 r5 r6 ox oy gA hSS hS hS5 nAX nAY hrX hrY
      refine until_ready (rs := [11]) (by kernel_rfl) (by simp) ?_
      intro jj hjj
      simp only [List.mem_cons, List.not_mem_nil, or_false] at hjj
      subst hjj
      refine wpOp_step rfl (fun KX hKX => ?_)
      have HX := hid hKX
      clear hKX
      go_simp
      refine HX.out _ _ ⟨(fun h => by cases (Eq.trans (Eq.symm (show _ = true by kernel_rfl)) h)), ?_⟩
      clear HX
      refine until_ready (rs := [12]) (by kernel_rfl) (by simp) ?_
      intro jj hjj
      simp only [List.mem_cons, List.not_mem_nil, or_false] at hjj
      subst hjj
      refine wpOp_step rfl (fun KX hKX => ?_)
      have HX := hid hKX
      clear hKX
      go_simp
      refine HX.out _ _ ⟨(fun h => by cases (Eq.trans (Eq.symm (show _ = true by kernel_rfl)) h)), ?_⟩
      clear HX
      refine until_ready (rs := [13]) (by kernel_rfl) (by simp) ?_
      intro jj hjj
      simp only [List.mem_cons, List.not_mem_nil, or_false] at hjj
      subst hjj
      refine wpOp_step rfl (fun KX hKX => ?_)
      have HX := hid hKX
      clear hKX
      go_simp
      refine HX.out _ _ ⟨(fun h => by cases (Eq.trans (Eq.symm (show _ = true by kernel_rfl)) h)), ?_⟩
      clear HX
      refine until_done (by kernel_rfl) ⟨rfl, ?_⟩ _
      obtain ⟨f1, f2, f3, f4⟩ := FIN.out
      obtain ⟨t1, t2⟩ := HQ.out _ f4
      generalize (w6.setCell ⟨w2.heap.size, 0, none⟩ (.slice ao5 (C.length + 1) cp5)).setCell ⟨w2.heap.size, 1, none⟩ (.slice ao6 (C.length + 1) cp6) = W9 at *
      have OW := OwnM.snoc (e := (k, v)) f1 f2
      have HLN := hid hbase
      clear f1 f2 f4 FIN HQ
      have o0 := cell_of (i := 0) f3 rfl
      have o1 := cell_of (i := 1) f3 rfl
      have y0 := Lib.frozen_of_heap t1 0
      have y1 := Lib.frozen_of_heap t1 1
      have r0 := cell_of (i := 0) t1 rfl
      have r1 := cell_of (i := 1) t1 rfl
      have T1 := hid t1
      have T2 := hid t2
      clear t1 t2 f3
      go_wp2_with fail
      clear o0 o1 y0 y1 r0 r1
      exact rset_end HLN.out OW T1.out T2.out HCS.out rfl rfl
    · skip
      refine wpOp_step rfl (fun KX hKX => ?_)
      have HX := hid hKX
      clear hKX
      go_simp
      refine HX.out _ _ ⟨fun _ => hSS _ (s38 _ _), ?_⟩
      clear HX
      refine until_ready (rs := [4]) (by kernel_rfl) (by simp) ?_
      intro jj hjj
      simp only [List.mem_cons, List.not_mem_nil, or_false] at hjj
      subst hjj
      refine wpOp_step rfl (fun KX hKX => ?_)
      have HX := hid hKX
      clear hKX
      refine app_step (by rfl) _ _ 27 (by rfl) base 9 _ 1 16 Try.underlying27 info9 rfl (by decide) (.slice ax C.length cx) C.length (csT (C.map (·.1))) (by rfl) (by exact (ox.alloc _).alloc _) _ _ _ (by rfl) (by exact (heap_two W6 _ _).1) rfl (by intro u hu; simp at hu; subst hu; rfl) hl1 (by decide) (by first | omega | (simp; done) | (simp; omega)) ?_
      intro v1 w5 o5 r5
      have st5 := (s38 _ _).app1 hbz r5 hrX
      have oy5 : w5.ownsRow base 3 1 (.slice ay C.length cy) C.length (csN (C.map (·.2))) := row_keep r5 (by exact (oy.alloc _).alloc _) (by exact (ox.alloc _).alloc _) (by decide)
      obtain ⟨ao5, cp5, rfl⟩ := row_form o5
      have hS5 := hSS _ st5
      have z5 := st5.below.size
      refine HX.out _ _ ⟨fun _ => hS5, ?_⟩
      clear HX
      simp only [Act.put]
      refine take_next (i := 10) (.pointer (some ⟨w2.heap.size, 0, none⟩)) [11] (by kernel_rfl) (by kernel_rfl) rfl (by kernel_rfl) (by kernel_rfl) (by kernel_rfl) (by kernel_rfl) (fun _ _ _ h => absurd h.1 (by simp)) (Or.inl ⟨by rfl, fun w' hSw => by obtain ⟨h1, h2⟩ := hSw; go_simp⟩) hS5 ?_
      simp only [Act.put]
      refine until_ready (rs := [9]) (by kernel_rfl) (by simp) ?_
      intro jj hjj
      simp only [List.mem_cons, List.not_mem_nil, or_false] at hjj
      subst hjj
      refine wpOp_step rfl (fun KX hKX => ?_)
      have HX := hid hKX
      clear hKX
      refine app_step (by rfl) _ _ 28 (by rfl) base 3 _ 1 8 Try.underlying28 info3 rfl (by decide) (.slice ay C.length cy) C.length (csN (C.map (·.2))) (by rfl) (by exact oy5) _ _ _ (by rfl) (by exact (r5.block _ (by first | (simp; done) | (simp; omega)) (far _ (by omega))).trans (heap_two W6 _ _).2) rfl (by intro u hu; simp at hu; subst hu; rfl) hl2 (by decide) (by first | omega | (simp; done) | (simp; omega)) ?_
      intro v2 w6 o6 r6
      have st6 := (st5).app2 hbz r6 hrY
      have ox6 : w6.ownsRow base 9 1 (.slice ao5 (C.length + 1) cp5) (C.length + 1) ((csT (C.map (·.1))) ++ [.string (M.bs k)]) := row_keep r6 (by exact o5) (by exact oy5) (by decide)
      obtain ⟨ao6, cp6, rfl⟩ := row_form o6
      refine HX.out _ _ ⟨fun _ => hSS _ st6, ?_⟩
      clear HX
      simp only [Act.put]
      have a6 := (st6.block _ lA nAX nAY).trans gA
      have y1 := cell_of (i := 0) a6 rfl
      have y2 := cell_of (i := 1) a6 rfl
      have f1 := Lib.frozen_of_heap a6 0
      have f2 := Lib.frozen_of_heap a6 1
      have FIN := hid (two_stored (u := .slice ao5 (C.length + 1) cp5) (v := .slice ao6 (C.length + 1) cp6) a6 ox6 o6 (by decide) (by decide) st6 hbA)
      clear ox6 o6 o5 oy5 a6 st6 st5 r5 r6 ox oy gA hSS hS hS5 nAX nAY hrX hrY
      refine until_ready (rs := [11]) (by kernel_rfl) (by simp) ?_
      intro jj hjj
      simp only [List.mem_cons, List.not_mem_nil, or_false] at hjj
      subst hjj
      refine wpOp_step rfl (fun KX hKX => ?_)
      have HX := hid hKX
      clear hKX
      go_simp
      refine HX.out _ _ ⟨(fun h => by cases (Eq.trans (Eq.symm (show _ = true by kernel_rfl)) h)), ?_⟩
      clear HX
      refine until_ready (rs := [12]) (by kernel_rfl) (by simp) ?_
      intro jj hjj
      simp only [List.mem_cons, List.not_mem_nil, or_false] at hjj
      subst hjj
      refine wpOp_step rfl (fun KX hKX => ?_)
      have HX := hid hKX
      clear hKX
      go_simp
      refine HX.out _ _ ⟨(fun h => by cases (Eq.trans (Eq.symm (show _ = true by kernel_rfl)) h)), ?_⟩
      clear HX
      refine until_ready (rs := [13]) (by kernel_rfl) (by simp) ?_
      intro jj hjj
      simp only [List.mem_cons, List.not_mem_nil, or_false] at hjj
      subst hjj
      refine wpOp_step rfl (fun KX hKX => ?_)
      have HX := hid hKX
      clear hKX
      go_simp
      refine HX.out _ _ ⟨(fun h => by cases (Eq.trans (Eq.symm (show _ = true by kernel_rfl)) h)), ?_⟩
      clear HX
      refine until_done (by kernel_rfl) ⟨rfl, ?_⟩ _
      obtain ⟨f1, f2, f3, f4⟩ := FIN.out
      obtain ⟨t1, t2⟩ := HQ.out _ f4
      generalize (w6.setCell ⟨w2.heap.size, 0, none⟩ (.slice ao5 (C.length + 1) cp5)).setCell ⟨w2.heap.size, 1, none⟩ (.slice ao6 (C.length + 1) cp6) = W9 at *
      have OW := OwnM.snoc (e := (k, v)) f1 f2
      have HLN := hid hbase
      clear f1 f2 f4 FIN HQ
      have o0 := cell_of (i := 0) f3 rfl
      have o1 := cell_of (i := 1) f3 rfl
      have y0 := Lib.frozen_of_heap t1 0
      have y1 := Lib.frozen_of_heap t1 1
      have r0 := cell_of (i := 0) t1 rfl
      have r1 := cell_of (i := 1) t1 rfl
      have T1 := hid t1
      have T2 := hid t2
      clear t1 t2 f3
      go_wp2_with fail
      clear o0 o1 y0 y1 r0 r1
      exact rset_end HLN.out OW T1.out T2.out HCS.out rfl rfl
  · skip
    refine wpOp_step rfl (fun KX hKX => ?_)
    have HX := hid hKX
    clear hKX
    go_simp
    refine HX.out _ _ ⟨fun _ => hSS _ (s3 _), ?_⟩
    clear HX
    refine until_ready (rs := [3]) (by kernel_rfl) (by simp) ?_
    intro jj hjj
    simp only [List.mem_cons, List.not_mem_nil, or_false] at hjj
    subst hjj
    refine wpOp_step rfl (fun KX hKX => ?_)
    have HX := hid hKX
    clear hKX
    go_simp
    refine HX.out _ _ ⟨fun _ => hSS _ (s38 _ _), ?_⟩
    clear HX
    refine until_ready (rs := [4]) (by kernel_rfl) (by simp) ?_
    intro jj hjj
    simp only [List.mem_cons, List.not_mem_nil, or_false] at hjj
    subst hjj
    refine wpOp_step rfl (fun KX hKX => ?_)
    have HX := hid hKX
    clear hKX
    refine app_step (by rfl) _ _ 27 (by rfl) base 9 _ 1 16 Try.underlying27 info9 rfl (by decide) (.slice ax C.length cx) C.length (csT (C.map (·.1))) (by rfl) (by exact (ox.alloc _).alloc _) _ _ _ (by rfl) (by exact (heap_two W6 _ _).2) rfl (by intro u hu; simp at hu; subst hu; rfl) hl1 (by decide) (by first | omega | (simp; done) | (simp; omega)) ?_
    intro v1 w5 o5 r5
    have st5 := (s38 _ _).app1 hbz r5 hrX
    have oy5 : w5.ownsRow base 3 1 (.slice ay C.length cy) C.length (csN (C.map (·.2))) := row_keep r5 (by exact (oy.alloc _).alloc _) (by exact (ox.alloc _).alloc _) (by decide)
    obtain ⟨ao5, cp5, rfl⟩ := row_form o5
    have hS5 := hSS _ st5
    have z5 := st5.below.size
    refine HX.out _ _ ⟨fun _ => hS5, ?_⟩
    clear HX
    simp only [Act.put]
    refine take_next (i := 10) (.pointer (some ⟨w2.heap.size, 0, none⟩)) [11] (by kernel_rfl) (by kernel_rfl) rfl (by kernel_rfl) (by kernel_rfl) (by kernel_rfl) (by kernel_rfl) (fun _ _ _ h => absurd h.1 (by simp)) (Or.inl ⟨by rfl, fun w' hSw => by obtain ⟨h1, h2⟩ := hSw; go_simp⟩) hS5 ?_
    simp only [Act.put]
    refine until_ready (rs := [9]) (by kernel_rfl) (by simp) ?_
    intro jj hjj
    simp only [List.mem_cons, List.not_mem_nil, or_false] at hjj
    subst hjj
    refine wpOp_step rfl (fun KX hKX => ?_)
    have HX := hid hKX
    clear hKX
    refine app_step (by rfl) _ _ 28 (by rfl) base 3 _ 1 8 Try.underlying28 info3 rfl (by decide) (.slice ay C.length cy) C.length (csN (C.map (·.2))) (by rfl) (by exact oy5) _ _ _ (by rfl) (by exact (r5.block _ (by first | (simp; done) | (simp; omega)) (far _ (by omega))).trans (heap_two W6 _ _).1) rfl (by intro u hu; simp at hu; subst hu; rfl) hl2 (by decide) (by first | omega | (simp; done) | (simp; omega)) ?_
    intro v2 w6 o6 r6
    have st6 := (st5).app2 hbz r6 hrY
    have ox6 : w6.ownsRow base 9 1 (.slice ao5 (C.length + 1) cp5) (C.length + 1) ((csT (C.map (·.1))) ++ [.string (M.bs k)]) := row_keep r6 (by exact o5) (by exact oy5) (by decide)
    obtain ⟨ao6, cp6, rfl⟩ := row_form o6
    refine HX.out _ _ ⟨fun _ => hSS _ st6, ?_⟩
    clear HX
    simp only [Act.put]
    have a6 := (st6.block _ lA nAX nAY).trans gA
    have y1 := cell_of (i := 0) a6 rfl
    have y2 := cell_of (i := 1) a6 rfl
    have f1 := Lib.frozen_of_heap a6 0
    have f2 := Lib.frozen_of_heap a6 1
    have FIN := hid (two_stored (u := .slice ao5 (C.length + 1) cp5) (v := .slice ao6 (C.length + 1) cp6) a6 ox6 o6 (by decide) (by decide) st6 hbA)
    clear ox6 o6 o5 oy5 a6 st6 st5 r5 r6 ox oy gA hSS hS hS5 nAX nAY hrX hrY
    refine until_ready (rs := [11]) (by kernel_rfl) (by simp) ?_
    intro jj hjj
    simp only [List.mem_cons, List.not_mem_nil, or_false] at hjj
    subst hjj
    refine wpOp_step rfl (fun KX hKX => ?_)
    have HX := hid hKX
    clear hKX
    go_simp
    refine HX.out _ _ ⟨(fun h => by cases (Eq.trans (Eq.symm (show _ = true by kernel_rfl)) h)), ?_⟩
    clear HX
    refine until_ready (rs := [12]) (by kernel_rfl) (by simp) ?_
    intro jj hjj
    simp only [List.mem_cons, List.not_mem_nil, or_false] at hjj
    subst hjj
    refine wpOp_step rfl (fun KX hKX => ?_)
    have HX := hid hKX
    clear hKX
    go_simp
    refine HX.out _ _ ⟨(fun h => by cases (Eq.trans (Eq.symm (show _ = true by kernel_rfl)) h)), ?_⟩
    clear HX
    refine until_ready (rs := [13]) (by kernel_rfl) (by simp) ?_
    intro jj hjj
    simp only [List.mem_cons, List.not_mem_nil, or_false] at hjj
    subst hjj
    refine wpOp_step rfl (fun KX hKX => ?_)
    have HX := hid hKX
    clear hKX
    go_simp
    refine HX.out _ _ ⟨(fun h => by cases (Eq.trans (Eq.symm (show _ = true by kernel_rfl)) h)), ?_⟩
    clear HX
    refine until_done (by kernel_rfl) ⟨rfl, ?_⟩ _
    obtain ⟨f1, f2, f3, f4⟩ := FIN.out
    obtain ⟨t1, t2⟩ := HQ.out _ f4
    generalize (w6.setCell ⟨w2.heap.size, 0, none⟩ (.slice ao5 (C.length + 1) cp5)).setCell ⟨w2.heap.size, 1, none⟩ (.slice ao6 (C.length + 1) cp6) = W9 at *
    have OW := OwnM.snoc (e := (k, v)) f1 f2
    have HLN := hid hbase
    clear f1 f2 f4 FIN HQ
    have o0 := cell_of (i := 0) f3 rfl
    have o1 := cell_of (i := 1) f3 rfl
    have y0 := Lib.frozen_of_heap t1 0
    have y1 := Lib.frozen_of_heap t1 1
    have r0 := cell_of (i := 0) t1 rfl
    have r1 := cell_of (i := 1) t1 rfl
    have T1 := hid t1
    have T2 := hid t2
    clear t1 t2 f3
    go_wp2_with fail
    clear o0 o1 y0 y1 r0 r1
    exact rset_end HLN.out OW T1.out T2.out HCS.out rfl rfl
end Go.Proofs.Ytoelaemneoabfab
