/-
  node's Mark, walked.
-/
import Derived.Test.YtcmplklefeicbaaEB
namespace Go.Proofs.Ytcmplklefeicbaa.M
def mark (es : List En) (i : Nat) (m : Bool) : List En := es.modify i (fun e => (e.1, e.2.1, m))
theorem mark_length (es : List En) (i : Nat) (m : Bool) : (mark es i m).length = es.length := by simp [mark]
theorem mark_keys : ∀ (es : List En) (i : Nat) (m : Bool), (mark es i m).map (·.1) = es.map (·.1)
  | [], i, m => by simp [mark]
  | e :: L, 0, m => by simp [mark]
  | e :: L, i + 1, m => by
    have := mark_keys L i m
    simp only [mark, List.modify_succ_cons, List.map_cons] at *
    rw [this]
theorem mark_szs : ∀ (es : List En) (i : Nat) (m : Bool), szs (mark es i m) = szs es
  | [], i, m => by simp [mark]
  | e :: L, 0, m => by simp [mark, szs, szE]
  | e :: L, i + 1, m => by
    have := mark_szs L i m
    simp only [mark, List.modify_succ_cons, szs] at *
    rw [this]
theorem mark_mark : ∀ (es : List En) (i : Nat) (a c : Bool), mark (mark es i a) i c = mark es i c
  | [], i, a, c => by simp [mark]
  | e :: L, 0, a, c => by simp [mark]
  | e :: L, i + 1, a, c => by
    have := mark_mark L i a c
    simp only [mark, List.modify_succ_cons] at *
    rw [this]
theorem mark_self : ∀ (es : List En) (i : Nat) (h : i < es.length), mark es i (es[i]'h).2.2 = es
  | e :: L, 0, _ => by simp [mark]
  | e :: L, i + 1, h => by
    have := mark_self L i (by simpa using h)
    simp only [mark, List.modify_succ_cons, List.getElem_cons_succ] at *
    rw [this]
theorem mark_at : ∀ (es : List En) (i : Nat) (m : Bool) (h : i < (mark es i m).length), ((mark es i m)[i]'h).2.2 = m
  | [], i, m, h => by simp [mark] at h
  | e :: L, 0, m, _ => by simp [mark]
  | e :: L, i + 1, m, h => by
    have := mark_at L i m (by simpa [mark] using h)
    simp only [mark, List.modify_succ_cons, List.getElem_cons_succ] at *
    exact this
theorem mark_mem (es : List En) (i : Nat) (m : Bool) (e : En) (h : e ∈ mark es i m) : ∃ e' ∈ es, e'.1 = e.1 ∧ e'.2.1 = e.2.1 := by
  obtain ⟨j, hj, rfl⟩ := List.getElem_of_mem h
  have hj' : j < es.length := by rw [mark_length] at hj; exact hj
  refine ⟨es[j], List.getElem_mem hj', ?_⟩
  simp only [mark, List.getElem_modify]
  split <;> simp
section
variable {κ : Type} {cf : κ → κ → Int}
theorem pos_keys : ∀ (L L' : Ents κ) (k : κ), L.map (·.1) = L'.map (·.1) → pos cf L k = pos cf L' k ∧ has cf L k = has cf L' k
  | [], [], _, _ => ⟨rfl, rfl⟩
  | [], _ :: _, _, h => by simp at h
  | _ :: _, [], _, h => by simp at h
  | a :: L, c :: L', k, h => by
    simp only [List.map_cons, List.cons.injEq] at h
    obtain ⟨h1, h2⟩ := pos_keys L L' k h.2
    simp only [pos, has, h.1, h1, h2]
    exact ⟨trivial, trivial⟩
theorem up_keys {L L' : Ents κ} (h : L.map (·.1) = L'.map (·.1)) (hu : Up cf L) : Up cf L' := by
  have h1 : (L.map (·.1)).Pairwise (fun a b => cf a b < 0) := List.pairwise_map.2 hu
  rw [h] at h1
  exact List.pairwise_map.1 h1
end
end Go.Proofs.Ytcmplklefeicbaa.M
namespace Go.Proofs.Ytcmplklefeicbaa
open Go.RowKit
set_option maxRecDepth 100000

theorem csE_mark : ∀ (es : List M.En) (i : Nat) (m : Bool), csE (M.mark es i m) = (csE es).set (i * 3 + 2) (.bool m)
  | [], i, m => by simp [M.mark, csE]
  | e :: L, 0, m => by simp [M.mark, csE, List.flatMap_cons]
  | e :: L, i + 1, m => by
    have := csE_mark L i m
    have e1 : (i + 1) * 3 + 2 = i * 3 + 2 + 3 := by omega
    rw [e1]
    simp only [M.mark, List.modify_succ_cons, csE, List.flatMap_cons] at *
    rw [this]
    rfl
theorem ownsRow_set {w : World} {base : Nat} {e : TypeId} {size g n cap : Nat} {xs : List Value} (h : w.ownsRow base e size (.slice (some ⟨g, 0, none⟩) n cap) n xs) (j : Nat) (u : Value) : (w.setCell ⟨g, j, none⟩ u).ownsRow base e size (.slice (some ⟨g, 0, none⟩) n cap) n (xs.set j u) := by
  refine ⟨by rw [List.length_set]; exact h.1, ?_⟩
  rcases h.2 with ⟨hv, _⟩ | ⟨g', cap', cur, hv, hb, hg, hn, hm, hs, ht⟩
  · cases hv
  · injection hv with h1 h2 h3
    injection h1 with h1
    injection h1 with h1
    subst h1 h3
    refine .inr ⟨g, cap, cur.setIfInBounds j u, rfl, hb, ?_, hn, hm, by simpa using hs, ?_⟩
    · rw [setCell_eq_setRow w g j _ e (0, 0) _ hg]
      exact setRow_heap w g _ _ e _ hg
    · rw [Array.toList_setIfInBounds, List.take_set, ht]
theorem row_frozen {w : World} {base : Nat} {e : TypeId} {size g n cap : Nat} {xs : List Value} (h : w.ownsRow base e size (.slice (some ⟨g, 0, none⟩) n cap) n xs) (j : Nat) : w.frozen? ⟨g, j, none⟩ = false := by
  rcases h.2 with ⟨hv, _⟩ | ⟨g', cap', cur, hv, hb, hg, hn, hm, hs, ht⟩
  · cases hv
  · injection hv with h1 h2 h3
    injection h1 with h1
    injection h1 with h1
    subst h1
    simp [World.frozen?, hg]
theorem info4 : (Try.prog.info? 4).map (·.size) = some 1 := by kernel_rfl
theorem info28s : (Try.prog.info? 28).map (·.size) = some 1 := by kernel_rfl
/-- A one-cell value, stored into a cell of whatever block, at a plain region's list. -/
theorem store1 {ops : Array Oper} {rest : List Oper} {op : Oper} {a : Go.Act} {w : World} {Q : Exit → Go.Act → World → Prop} (hgd : op.guard = none) (ty : TypeId) (x y : Operand) (ho : op.op = .store ty x y)
    (b o : Nat) (v : Value) (hx : a.eval x = .pointer (some ⟨b, o, none⟩)) (hy : a.eval y = v) (u : Value) (hc : w.cell? ⟨b, o, none⟩ = some u) (hf : w.frozen? ⟨b, o, none⟩ = false)
    (hi : (Try.prog.info? ty).map (·.size) = some 1) (h1 : v.oneCell' = true) (W : World) (hW : w.setCell ⟨b, o, none⟩ v = W)
    (h : wpList Try.prog ops Q rest (a.put op.dst undef) W) : wpList Try.prog ops Q (op :: rest) a w :=
  wpList_plain hgd fun _ hK => by
    subst hW
    have h1' : ∀ j, j < [v].length → (w.cell? ⟨b, o + 0 + j, none⟩).isSome = true := fun j hj => by
      obtain rfl : j = 0 := by simpa using hj
      simp [hc]
    have h2' : ∀ j, j < [v].length → w.frozen? ⟨b, o + 0 + j, none⟩ = false := fun j hj => by
      obtain rfl : j = 0 := by simpa using hj
      simpa using hf
    have := run_storeCells_cells (P := Try.prog) b o [v] 0 w h1' h2'
      (fun x hx => by simp at hx; subst hx; exact h1)
    have hcs : v.cells = #[v] := by cases v <;> first | rfl | cases h1
    have hs : (storeVar ty ⟨b, o, none⟩ v).run Try.prog w = .ok () (w.setCell ⟨b, o, none⟩ v) := by
      cases hq : Try.prog.info? ty with
      | none => simp [hq] at hi
      | some i =>
        have hs : i.size = 1 := by simpa [hq] using hi
        simp only [Nat.add_zero] at this
        simpa [storeVar, sizeOf, typeInfo, hq, hcs, hs, World.setCells] using this
    unfold Oper.wp execOp
    simp only [ho, hx, hy, Instr.storeAt, Instr.sureAddr, Sem.run_bind, Sem.run_pure, Result.andThen_ok, hs]
    exact hK _ _ h


set_option maxHeartbeats 4000000 in
theorem mark_none (p : M.Pg) (x : Value) (k : List UInt8) (m : Bool) (w : World) (hs : Sm p) (hv : Vals w x p.es) (hu : M.Up M.cfS p.es) (hh : M.has M.cfS p.es k = false) :
    Calls Try.prog 14 #[pv p x, .string (M.bs k), .bool m] w fun e w' => e = .returned (.tuple #[.agg noC, .int .i64 11]) ∧ Bel w w' := by
  obtain ⟨a, cap, rfl, hv'⟩ := id hv
  have hfind := fun W hW => find_any p (.slice a p.es.length cap) k W hs (hv.bel hW) hu
  rw [hh] at hfind
  have HF := hid hfind
  have I0 := hid (RB.start w #[.int .i64 p.lsn, .int .i64 p.kind, .int .i64 p.level, .int .i64 p.right, .string (M.bs p.high), .slice a p.es.length cap])
  clear hfind hv hv'
  go_enter Try.func14, Try.ntmps14
  go_wp2_with (go_at_call 24; refine (HF.out _ I0.out.below).mono ?_; rintro e w3 ⟨rfl, b3⟩; have I3 := hid (I0.out.bel b3); clear b3; obtain ⟨d0, d1, d2, d3, d4, d5⟩ := blk_cells I3.out.b1; have df0 := I3.out.b1.frozen 0; have df1 := I3.out.b1.frozen 1; have df2 := I3.out.b1.frozen 2; have df3 := I3.out.b1.frozen 3; have df4 := I3.out.b1.frozen 4; have df5 := I3.out.b1.frozen 5)
  refine bodyPost_ret (results_cell_row2 (p := 6) (ty := 30) (u := 7) rfl _ _ (w.heap.size + 1) _ rfl (load30 (cs := noC) (set6 I3.out.b1 _ _ _ _ _ _) rfl)) rfl ?_
  exact ⟨rfl, bel6 I3.out.below (by omega) _ _ _ _ _ _⟩
set_option maxHeartbeats 4000000 in
theorem mark_same (p : M.Pg) (b off cap : Nat) (k : List UInt8) (w : World) (hs : Sm p) (hb : b < w.heap.size) (hr : Row3 w b off p.es) (hu : M.Up M.cfS p.es) (hh : M.has M.cfS p.es k = true) (i : Nat) (hi : i = M.pos M.cfS p.es k) (hlt : i < p.es.length) (mk : Bool) (hmk : mk = (p.es[i]'hlt).2.2) :
    Calls Try.prog 14 #[pv p (.slice (some ⟨b, off, none⟩) p.es.length cap), .string (M.bs k), .bool mk] w fun e w' => e = .returned (.tuple #[.agg noC, .int .i64 17]) ∧ Bel w w' := by
  have hv : Vals w (.slice (some ⟨b, off, none⟩) p.es.length cap) p.es := ⟨_, cap, rfl, .inr ⟨b, off, rfl, hr⟩⟩
  have hfind := fun W hW => find_any p (.slice (some ⟨b, off, none⟩) p.es.length cap) k W hs (hv.bel hW) hu
  rw [hh, ← hi] at hfind
  have HROW : Hid (∀ W, Bel w W → Row3 W b off p.es) := fun W hW => hr.below hW hb
  have HF := hid hfind
  have I0 := hid (RB.start w #[.int .i64 p.lsn, .int .i64 p.kind, .int .i64 p.level, .int .i64 p.right, .string (M.bs p.high), .slice (some ⟨b, off, none⟩) p.es.length cap])
  have hii : (i : Int) < (p.es.length : Int) := by omega
  have HC : Hid (∀ W, Bel w W → W.cell? ⟨b, off + i * 3 + 2, none⟩ = some (.bool mk)) := fun W hW => by rw [hmk]; exact (HROW.out W hW i hlt).2.2
  clear hmk HROW hv hr hfind hi
  cases mk with
  | true =>
    go_enter Try.func14, Try.ntmps14
    go_wp2_with (go_at_call 24; refine (HF.out _ I0.out.below).mono ?_; rintro e w3 ⟨rfl, b3⟩; have I3 := hid (I0.out.bel b3); clear b3; obtain ⟨e0, e1, e2, e3, e4, e5⟩ := blk_cells I3.out.b0; have ec := HC.out w3 I3.out.below; obtain ⟨d0, d1, d2, d3, d4, d5⟩ := blk_cells I3.out.b1; have df0 := I3.out.b1.frozen 0; have df1 := I3.out.b1.frozen 1; have df2 := I3.out.b1.frozen 2; have df3 := I3.out.b1.frozen 3; have df4 := I3.out.b1.frozen 4; have df5 := I3.out.b1.frozen 5)
    refine bodyPost_ret (results_cell_row2 (p := 6) (ty := 30) (u := 7) rfl _ _ (w.heap.size + 1) _ rfl (load30 (cs := noC) (set6 I3.out.b1 _ _ _ _ _ _) rfl)) rfl ?_
    exact ⟨rfl, bel6 I3.out.below (by omega) _ _ _ _ _ _⟩
  | false =>
    go_enter Try.func14, Try.ntmps14
    go_wp2_with (go_at_call 24; refine (HF.out _ I0.out.below).mono ?_; rintro e w3 ⟨rfl, b3⟩; have I3 := hid (I0.out.bel b3); clear b3; obtain ⟨e0, e1, e2, e3, e4, e5⟩ := blk_cells I3.out.b0; have ec := HC.out w3 I3.out.below; obtain ⟨d0, d1, d2, d3, d4, d5⟩ := blk_cells I3.out.b1; have df0 := I3.out.b1.frozen 0; have df1 := I3.out.b1.frozen 1; have df2 := I3.out.b1.frozen 2; have df3 := I3.out.b1.frozen 3; have df4 := I3.out.b1.frozen 4; have df5 := I3.out.b1.frozen 5)
    refine bodyPost_ret (results_cell_row2 (p := 6) (ty := 30) (u := 7) rfl _ _ (w.heap.size + 1) _ rfl (load30 (cs := noC) (set6 I3.out.b1 _ _ _ _ _ _) rfl)) rfl ?_
    exact ⟨rfl, bel6 I3.out.below (by omega) _ _ _ _ _ _⟩
set_option maxHeartbeats 8000000 in
theorem mark_yes (p : M.Pg) (b off cap : Nat) (k : List UInt8) (w : World) (hs : Sm p) (hcap : p.es.length ≤ cap) (hb : b < w.heap.size) (hr : Row3 w b off p.es) (hu : M.Up M.cfS p.es) (hh : M.has M.cfS p.es k = true) (i : Nat) (hi : i = M.pos M.cfS p.es k) (hlt : i < p.es.length) (mk : Bool) (hmk : mk = (p.es[i]'hlt).2.2) :
    Calls Try.prog 14 #[pv p (.slice (some ⟨b, off, none⟩) p.es.length cap), .string (M.bs k), .bool (!mk)] w fun e w' => ∃ x', e = .returned (.tuple #[pv { p with es := M.mark p.es i (!mk) } x', .int .i64 0]) ∧ w'.ownsRow w.heap.size 40 3 x' p.es.length (csE (M.mark p.es i (!mk))) ∧ Bel w w' := by
  have hv : Vals w (.slice (some ⟨b, off, none⟩) p.es.length cap) p.es := ⟨_, cap, rfl, .inr ⟨b, off, rfl, hr⟩⟩
  have hfind := fun W hW => find_any p (.slice (some ⟨b, off, none⟩) p.es.length cap) k W hs (hv.bel hW) hu
  have hes := hs.es
  rw [hh, ← hi] at hfind
  have HROW : Hid (∀ W, Bel w W → Row3 W b off p.es) := fun W hW => hr.below hW hb
  have HCL : Hid (∀ W, Bel w W → Calls Try.prog 30 #[.slice (some ⟨b, off, none⟩) p.es.length cap] W fun e w' => ∃ x', e = .returned x' ∧ w'.ownsRow W.heap.size 40 3 x' p.es.length (csE p.es) ∧ Bel W w') := fun W hW => clone_any _ p.es W (.inr ⟨b, off, cap, rfl, hcap, Nat.lt_of_lt_of_le hb hW.size, hr.below hW hb⟩) (by omega)
  have HF := hid hfind
  have I0 := hid (RB.start w #[.int .i64 p.lsn, .int .i64 p.kind, .int .i64 p.level, .int .i64 p.right, .string (M.bs p.high), .slice (some ⟨b, off, none⟩) p.es.length cap])
  have hii : (i : Int) < (p.es.length : Int) := by omega
  have HC : Hid (∀ W, Bel w W → W.cell? ⟨b, off + i * 3 + 2, none⟩ = some (.bool mk)) := fun W hW => by rw [hmk]; exact (HROW.out W hW i hlt).2.2
  clear hmk HROW hv hr hfind hi
  cases mk with
  | true =>
    simp only [Bool.not_true]
    go_enter Try.func14, Try.ntmps14
    go_wp2_with (go_at_call 24; refine (HF.out _ I0.out.below).mono ?_; rintro e w3 ⟨rfl, b3⟩; have I3 := hid (I0.out.bel b3); clear b3; obtain ⟨e0, e1, e2, e3, e4, e5⟩ := blk_cells I3.out.b0; have ec := HC.out w3 I3.out.below)
    refine (HCL.out _ I3.out.below).mono ?_
    rintro e w4 ⟨x4, rfl, o4, k4⟩
    obtain ⟨g4, c4, rfl⟩ : ∃ g c, x4 = .slice (some ⟨g, 0, none⟩) p.es.length c := by
      rcases o4.2 with ⟨_, h0⟩ | ⟨g, c, cur, h, _⟩
      · omega
      · exact ⟨g, c, h⟩
    have I4 := hid (I3.out.bel k4)
    have O4 := hid o4
    have ZB := hid I3.out.b1.lt
    clear e0 e1 e2 e3 e4 e5 ec o4 k4 I3 HC HCL HF
    have e5 := (blk_cells I4.out.b0).2.2.2.2.2
    have f5 := I4.out.b0.frozen 5
    have hne : w.heap.size ≠ g4 := fun e => row_ne O4.out I4.out.b0 (by decide) (by rw [e]; rfl)
    have J5 : Hid (Blk (w4.setCell ⟨w.heap.size, 5, none⟩ (.slice (some ⟨g4, 0, none⟩) p.es.length c4)) w.heap.size #[.int .i64 p.lsn, .int .i64 p.kind, .int .i64 p.level, .int .i64 p.right, .string (M.bs p.high), .slice (some ⟨g4, 0, none⟩) p.es.length c4] 30) := hid (by
      have z := I4.out.b0.set 5 (.slice (some ⟨g4, 0, none⟩) p.es.length c4)
      simpa using z)
    have K5 := hid (I4.out.set (.slice (some ⟨g4, 0, none⟩) p.es.length c4))
    have O5 := hid (ownsRow_setCell_other (a := ⟨w.heap.size, 5, none⟩) O4.out (fun e => row_ne O4.out I4.out.b0 (by decide) e.symm) (.slice (some ⟨g4, 0, none⟩) p.es.length c4))
    obtain ⟨w5, hw5⟩ : ∃ w5, w4.setCell ⟨w.heap.size, 5, none⟩ (.slice (some ⟨g4, 0, none⟩) p.es.length c4) = w5 := ⟨_, rfl⟩
    rw [hw5] at J5 K5 O5
    have HW5 := hid hw5
    clear hw5
    have hcell := O5.out.cellAt (i * 3 + 2) (by omega)
    obtain ⟨u7, hu7⟩ : ∃ u, (csE p.es)[i * 3 + 2]? = some u := ⟨_, (csE_at p.es i hlt).2.2⟩
    rw [hu7] at hcell
    have hfz : w5.frozen? ⟨g4, i * 3 + 2, none⟩ = false := row_frozen O5.out _
    obtain ⟨w6, hw6⟩ : ∃ w6, w5.setCell ⟨g4, i * 3 + 2, none⟩ (.bool false) = w6 := ⟨_, rfl⟩
    have J6 : Hid (Blk w6 w.heap.size #[.int .i64 p.lsn, .int .i64 p.kind, .int .i64 p.level, .int .i64 p.right, .string (M.bs p.high), .slice (some ⟨g4, 0, none⟩) p.es.length c4] 30) := hid (by rw [← hw6]; exact blk_other J5.out hne _ _)
    have K6 : Hid (Blk w6 (w.heap.size + 1) noC 30) := hid (by rw [← hw6]; exact blk_other K5.out.b1 (fun e => row_ne O5.out K5.out.b1 (by decide) (by rw [e]; rfl)) _ _)
    have B6 : Hid (Bel w w6) := hid (by rw [← hw6]; exact Below.setCell K5.out.below (show w.heap.size ≤ g4 by have := (O5.out.lt g4 rfl).1; have := ZB.out; omega) _)
    have O6 : Hid (w6.ownsRow w3.heap.size 40 3 (.slice (some ⟨g4, 0, none⟩) p.es.length c4) p.es.length (csE (M.mark p.es i false))) := hid (by rw [← hw6, csE_mark]; exact ownsRow_set O5.out _ _)
    have HW6 := hid hw6
    clear hw6 hu7
    have HC5 := hid hcell
    have HF5 := hid hfz
    clear hcell hfz
    go_wp2_with (first
      | (refine store1 rfl 28 (.tmp 31) (.tmp 30) rfl w.heap.size 5 (.slice (some ⟨g4, 0, none⟩) p.es.length c4) rfl rfl _ e5 f5 info28s rfl w5 HW5.out ?_; clear e5 f5; obtain ⟨e0, e1, e2, e3, e4, e5⟩ := blk_cells J5.out)
      | (refine store1 rfl 4 (.tmp 37) (.tmp 35) rfl g4 (i * 3 + 2) (.bool false) rfl rfl _ HC5.out HF5.out info4 rfl w6 HW6.out ?_; clear e0 e1 e2 e3 e4 e5; obtain ⟨e0, e1, e2, e3, e4, e5⟩ := blk_cells J6.out; obtain ⟨d0, d1, d2, d3, d4, d5⟩ := blk_cells K6.out; have df0 := K6.out.frozen 0; have df1 := K6.out.frozen 1; have df2 := K6.out.frozen 2; have df3 := K6.out.frozen 3; have df4 := K6.out.frozen 4; have df5 := K6.out.frozen 5))
    refine bodyPost_ret (results_cell_row2 (p := 6) (ty := 30) (u := 7) rfl _ _ (w.heap.size + 1) _ rfl (load30 (cs := #[.int .i64 p.lsn, .int .i64 p.kind, .int .i64 p.level, .int .i64 p.right, .string (M.bs p.high), .slice (some ⟨g4, 0, none⟩) p.es.length c4]) (set6 K6.out _ _ _ _ _ _) rfl)) rfl ?_
    refine ⟨_, rfl, ?_, bel6 B6.out (by omega) _ _ _ _ _ _⟩
    exact own_base (base' := w.heap.size) (ownc6 O6.out (row_ne O6.out K6.out (by decide)) _ _ _ _ _ _) (by have := ZB.out; omega)
  | false =>
    simp only [Bool.not_false]
    go_enter Try.func14, Try.ntmps14
    go_wp2_with (go_at_call 24; refine (HF.out _ I0.out.below).mono ?_; rintro e w3 ⟨rfl, b3⟩; have I3 := hid (I0.out.bel b3); clear b3; obtain ⟨e0, e1, e2, e3, e4, e5⟩ := blk_cells I3.out.b0; have ec := HC.out w3 I3.out.below)
    refine (HCL.out _ I3.out.below).mono ?_
    rintro e w4 ⟨x4, rfl, o4, k4⟩
    obtain ⟨g4, c4, rfl⟩ : ∃ g c, x4 = .slice (some ⟨g, 0, none⟩) p.es.length c := by
      rcases o4.2 with ⟨_, h0⟩ | ⟨g, c, cur, h, _⟩
      · omega
      · exact ⟨g, c, h⟩
    have I4 := hid (I3.out.bel k4)
    have O4 := hid o4
    have ZB := hid I3.out.b1.lt
    clear e0 e1 e2 e3 e4 e5 ec o4 k4 I3 HC HCL HF
    have e5 := (blk_cells I4.out.b0).2.2.2.2.2
    have f5 := I4.out.b0.frozen 5
    have hne : w.heap.size ≠ g4 := fun e => row_ne O4.out I4.out.b0 (by decide) (by rw [e]; rfl)
    have J5 : Hid (Blk (w4.setCell ⟨w.heap.size, 5, none⟩ (.slice (some ⟨g4, 0, none⟩) p.es.length c4)) w.heap.size #[.int .i64 p.lsn, .int .i64 p.kind, .int .i64 p.level, .int .i64 p.right, .string (M.bs p.high), .slice (some ⟨g4, 0, none⟩) p.es.length c4] 30) := hid (by
      have z := I4.out.b0.set 5 (.slice (some ⟨g4, 0, none⟩) p.es.length c4)
      simpa using z)
    have K5 := hid (I4.out.set (.slice (some ⟨g4, 0, none⟩) p.es.length c4))
    have O5 := hid (ownsRow_setCell_other (a := ⟨w.heap.size, 5, none⟩) O4.out (fun e => row_ne O4.out I4.out.b0 (by decide) e.symm) (.slice (some ⟨g4, 0, none⟩) p.es.length c4))
    obtain ⟨w5, hw5⟩ : ∃ w5, w4.setCell ⟨w.heap.size, 5, none⟩ (.slice (some ⟨g4, 0, none⟩) p.es.length c4) = w5 := ⟨_, rfl⟩
    rw [hw5] at J5 K5 O5
    have HW5 := hid hw5
    clear hw5
    have hcell := O5.out.cellAt (i * 3 + 2) (by omega)
    obtain ⟨u7, hu7⟩ : ∃ u, (csE p.es)[i * 3 + 2]? = some u := ⟨_, (csE_at p.es i hlt).2.2⟩
    rw [hu7] at hcell
    have hfz : w5.frozen? ⟨g4, i * 3 + 2, none⟩ = false := row_frozen O5.out _
    obtain ⟨w6, hw6⟩ : ∃ w6, w5.setCell ⟨g4, i * 3 + 2, none⟩ (.bool true) = w6 := ⟨_, rfl⟩
    have J6 : Hid (Blk w6 w.heap.size #[.int .i64 p.lsn, .int .i64 p.kind, .int .i64 p.level, .int .i64 p.right, .string (M.bs p.high), .slice (some ⟨g4, 0, none⟩) p.es.length c4] 30) := hid (by rw [← hw6]; exact blk_other J5.out hne _ _)
    have K6 : Hid (Blk w6 (w.heap.size + 1) noC 30) := hid (by rw [← hw6]; exact blk_other K5.out.b1 (fun e => row_ne O5.out K5.out.b1 (by decide) (by rw [e]; rfl)) _ _)
    have B6 : Hid (Bel w w6) := hid (by rw [← hw6]; exact Below.setCell K5.out.below (show w.heap.size ≤ g4 by have := (O5.out.lt g4 rfl).1; have := ZB.out; omega) _)
    have O6 : Hid (w6.ownsRow w3.heap.size 40 3 (.slice (some ⟨g4, 0, none⟩) p.es.length c4) p.es.length (csE (M.mark p.es i true))) := hid (by rw [← hw6, csE_mark]; exact ownsRow_set O5.out _ _)
    have HW6 := hid hw6
    clear hw6 hu7
    have HC5 := hid hcell
    have HF5 := hid hfz
    clear hcell hfz
    go_wp2_with (first
      | (refine store1 rfl 28 (.tmp 31) (.tmp 30) rfl w.heap.size 5 (.slice (some ⟨g4, 0, none⟩) p.es.length c4) rfl rfl _ e5 f5 info28s rfl w5 HW5.out ?_; clear e5 f5; obtain ⟨e0, e1, e2, e3, e4, e5⟩ := blk_cells J5.out)
      | (refine store1 rfl 4 (.tmp 37) (.tmp 35) rfl g4 (i * 3 + 2) (.bool true) rfl rfl _ HC5.out HF5.out info4 rfl w6 HW6.out ?_; clear e0 e1 e2 e3 e4 e5; obtain ⟨e0, e1, e2, e3, e4, e5⟩ := blk_cells J6.out; obtain ⟨d0, d1, d2, d3, d4, d5⟩ := blk_cells K6.out; have df0 := K6.out.frozen 0; have df1 := K6.out.frozen 1; have df2 := K6.out.frozen 2; have df3 := K6.out.frozen 3; have df4 := K6.out.frozen 4; have df5 := K6.out.frozen 5))
    refine bodyPost_ret (results_cell_row2 (p := 6) (ty := 30) (u := 7) rfl _ _ (w.heap.size + 1) _ rfl (load30 (cs := #[.int .i64 p.lsn, .int .i64 p.kind, .int .i64 p.level, .int .i64 p.right, .string (M.bs p.high), .slice (some ⟨g4, 0, none⟩) p.es.length c4]) (set6 K6.out _ _ _ _ _ _) rfl)) rfl ?_
    refine ⟨_, rfl, ?_, bel6 B6.out (by omega) _ _ _ _ _ _⟩
    exact own_base (base' := w.heap.size) (ownc6 O6.out (row_ne O6.out K6.out (by decide)) _ _ _ _ _ _) (by have := ZB.out; omega)
end Go.Proofs.Ytcmplklefeicbaa
