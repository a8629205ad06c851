/-
  The contract of slices.Insert at entries, walked: one entry put into a row of the call's own.
-/
import Derived.Test.YtoelaemneoabfabF
import Derived.Shelf.Spec.SlicesInsert
namespace Go.Proofs.Ytoelaemneoabfab
open Go.RowKit

/-- 'copy' into a row that is nowhere frozen, of elements of whatever size. -/
theorem run_copyK {P : Program} (w : World) (dT sT ty elem : TypeId) (g o dLen dCap : Nat) (a : Addr) (sLen sCap size : Nat) (cur : Array Value) (t : TypeId) (cs : List Value)
    (hu : P.underlying dT = some (.slice elem)) (hs : (P.info? elem).map (·.size) = some size)
    (hg : w.heap[g]? = some (.cells cur t (0, 0))) (hn : cs.length = Nat.min sLen dLen * size)
    (hsrc : ∀ j v, cs[j]? = some v → w.cell? (a.add j) = some v) (hfit : o + cs.length ≤ cur.size) (h1 : ∀ v ∈ cs, v.oneCell' = true) :
    (Builtin.copy_ #[dT, sT] ty #[.slice (some ⟨g, o, none⟩) dLen dCap, .slice (some a) sLen sCap]).run P w =
      .ok (goInt (Nat.min sLen dLen)) (w.setRow g (cur.toList.take o ++ cs ++ cur.toList.drop (o + cs.length)).toArray) := by
  have hl := run_loadCells_list (P := P) w a cs hsrc
  have hst := run_storeCells_at P g o t cs 0 cur w hg (by simpa using hfit) h1
  cases hq : P.info? elem with
  | none => simp [hq] at hs
  | some i =>
    have hi : i.size = size := by simpa [hq] using hs
    rw [hn] at hl
    simp [Builtin.copy_, run_underlying hu, Builtin.lenOf, Builtin.firstCells, sizeOf, typeInfo, hq, hi, hl, hst]
theorem add_lit (g o i : Nat) : (⟨g, o, none⟩ : Addr).add i = ⟨g, o + i, none⟩ := by unfold Addr.add; split <;> simp_all
theorem get_mid (a x c : List Value) (j : Nat) : (a ++ x ++ c)[a.length + x.length + j]? = c[j]? := by
  rw [List.getElem?_append_right (by simp)]; congr 1; simp

theorem two_newS (w : World) (c0 c1 : Value) : ∀ j u, [c0, c1][j]? = some u → (w.alloc (.cells #[c0, c1] 70)).cell? ((⟨w.heap.size, 0, none⟩ : Addr).add j) = some u := by
  intro j u h
  rw [add_lit, World.cell?_alloc_at (hn := rfl)]
  simpa using h
theorem size70 : (Try.prog.info? 70).map (·.size) = some 2 := by kernel_rfl
theorem appEntryS (X : Nat → Prop) (L : M.Ents (List UInt8)) (k : List UInt8) (x : Int) (v : Value) (w : World) (hL : L.length ≤ 1000) (ho : Own 70 2 X w v L.length (csS L)) (hX : ∀ k, X k → k < w.heap.size) :
    ∃ v' w', (∀ ty, (Builtin.append_ #[24, 24] ty #[v, .slice (some ⟨w.heap.size, 0, none⟩) 1 1]).run Try.prog (w.alloc (.cells #[(Value.string (M.bs k)), .int .i64 x] 70)) = .ok v' w') ∧ Own 70 2 X w' v' (L.length + 1) (csS (L ++ [(k, x)])) ∧ Keep X w w' := by
  obtain ⟨i0, hi, hz0, hz1, hz2⟩ := info_parts info70
  have hcs : csS (L ++ [(k, x)]) = csS L ++ [(Value.string (M.bs k)), .int .i64 x] := by rw [csS_append]; rfl
  have hone : ∀ u ∈ [(Value.string (M.bs k)), .int .i64 x], u.oneCell' = true := by intro u hu; simp at hu; rcases hu with rfl | rfl <;> rfl
  have hgrow : ∀ (base : Option Addr) (c : Nat) (_ : c < L.length + 1) (_ : (Builtin.firstCells i0.size L.length (.slice base L.length c)).run Try.prog (w.alloc (.cells #[(Value.string (M.bs k)), .int .i64 x] 70)).drew = .ok (csS L).toArray (w.alloc (.cells #[(Value.string (M.bs k)), .int .i64 x] 70)).drew),
      ∃ v' w', (∀ ty, (Builtin.append_ #[24, 24] ty #[.slice base L.length c, .slice (some ⟨w.heap.size, 0, none⟩) 1 1]).run Try.prog (w.alloc (.cells #[(Value.string (M.bs k)), .int .i64 x] 70)) = .ok v' w') ∧ Own 70 2 X w' v' (L.length + 1) (csS (L ++ [(k, x)])) ∧ Keep X w w' := by
    intro base c hc hf
    refine ⟨_, _, fun ty => run_append_grow_src _ 24 24 ty 70 i0 _ Try.underlying24 hi hz0 base L.length c _ hf _ 1 _
      (Src.ofSlice _ Try.underlying24 ⟨w.heap.size, 0, none⟩ 1 1 [(Value.string (M.bs k)), .int .i64 x] (by rw [hz1]; rfl) (two_newS w _ _) hone) hc (by omega) (by rw [hz2]; exact growslice_fits hc (by omega)), ?_, ?_⟩
    · refine ⟨⟨by rw [csS_length]; simp, .inr ⟨_, _, _, rfl, Nat.zero_le _, heap_alloc_new _ _, grownCap_ge _ _ _ _, grownCap_le_maxLen _ _ _ _ (by unfold maxLen; omega), ?_, ?_⟩⟩, fun g hg hx => ?_⟩
      · rw [Array.size_append, size_zeroCells]
        have := grownCap_ge (w.alloc (.cells #[(Value.string (M.bs k)), .int .i64 x] 70)) (L.length + 1) c 70
        simp only [List.size_toArray, List.length_append, csS_length, List.length_cons, List.length_nil]
        show _ + _ * 2 = _
        omega
      · rw [hcs, Array.toList_append, List.take_left' (by simp [csS_length]; omega)]
      · have : g = (w.alloc (.cells #[(Value.string (M.bs k)), .int .i64 x] 70)).heap.size := by simpa [Value.ownBlock] using hg.symm
        have := hX g hx
        simp at *; omega
    · exact (((Keep.refl X w).al hX _).dr).al hX _
  rcases ho.1.2 with ⟨rfl, hn⟩ | ⟨g, cap, cur, rfl, _, hg, hn, hm, hs, ht⟩
  · rw [hn] at hgrow ⊢
    exact hgrow none 0 (by omega) (by rw [List.length_eq_zero_iff.1 hn]; exact run_firstCells_none _ _ 0 0 0)
  · have hgl := (Array.getElem?_eq_some_iff.1 hg).1
    have hg' : (w.alloc (.cells #[(Value.string (M.bs k)), .int .i64 x] 70)).heap[g]? = some (.cells cur 70 (0, 0)) := (Below.heap_alloc _ _ _ hgl).trans hg
    by_cases hr : L.length + 1 ≤ cap
    · refine ⟨_, _, fun ty => run_append_room _ 24 ty 70 i0 Try.underlying24 hi g L.length cap cur hg' ⟨w.heap.size, 0, none⟩ 1 1 [(Value.string (M.bs k)), .int .i64 x] (by rw [hz1]; rfl) (two_newS w _ _) hone hr (by rw [hz1, hs]; simp; omega), ?_, ?_⟩
      · refine ⟨⟨by rw [csS_length]; simp, .inr ⟨g, cap, _, rfl, Nat.zero_le _, setRow_heap _ g cur _ 70 _ hg', hr, hm, ?_, ?_⟩⟩, fun g' hg' => ?_⟩
        · rw [hz1]; simp [hs]; omega
        · rw [hz1, ht, hcs, List.take_left' (by simp [csS_length]; omega)]
        · obtain rfl : g = g' := by simpa [Value.ownBlock] using hg'
          exact ho.2 g rfl
      · exact ((Keep.refl X w).al hX _).setRow (ho.2 g rfl) _
    · refine hgrow _ _ (by omega) ?_
      rw [hz1]
      refine run_firstCells_some _ 2 L.length ⟨g, 0, none⟩ L.length cap (csS L) (csS_length L) (fun j u hj => ?_)
      have := ho.1.cells (g := g) rfl j u hj
      rw [add_lit] at this ⊢
      show (w.alloc (.cells #[(Value.string (M.bs k)), .int .i64 x] 70)).cell? _ = _
      rw [World.cell?_alloc_past _ _ _ hgl]
      exact this
set_option maxHeartbeats 2000000 in
set_option maxRecDepth 100000 in
theorem insEndS (X : Nat → Prop) (L : M.Ents (List UInt8)) (k : List UInt8) (x : Int) (v : Value) (w : World) (hL : L.length ≤ 1000) (ho : Own 70 2 X w v L.length (csS L)) (hX : ∀ k, X k → k < w.heap.size) :
    Calls Try.prog 33 #[v, .int .i64 L.length, .slice (some ⟨w.heap.size, 0, none⟩) 1 1] (w.alloc (.cells #[(Value.string (M.bs k)), .int .i64 x] 70)) fun e w' =>
      ∃ v', e = .returned v' ∧ Own 70 2 X w' v' (L.length + 1) (csS (L ++ [(k, x)])) ∧ Keep X w w' := by
  obtain ⟨v', w', hrun, ho', hk'⟩ := appEntryS X L k x v w hL ho hX
  rcases ho.1.2 with ⟨rfl, hn⟩ | ⟨g, cap, cur, rfl, _, hg, hn, hm, hs, ht⟩
  · have ho2 : Own 70 2 X w' v' 1 (csS (L ++ [(k, x)])) := by rw [hn] at ho'; exact ho'
    rw [hn]
    clear ho ho'
    go_enter Try.func33, Try.ntmps33
    go_wp2_with (at_builtin; refine Lib.wpList_append_run _ rfl _ _ _ _ rfl _ _ rfl rfl _ _ (hrun _) ?_)
    go_ret
    exact ⟨_, rfl, ho2, hk'⟩
  · clear ho hg hs ht
    unfold maxLen at hm
    go_enter Try.func33, Try.ntmps33
    go_wp2_with (at_builtin; refine Lib.wpList_append_run _ rfl _ _ _ _ rfl _ _ rfl rfl _ _ (hrun _) ?_)
    all_goals (go_ret; exact ⟨_, rfl, ho', hk'⟩)
theorem ovS (w : World) (g i lb cb : Nat) (c0 c1 : Value) (cur : Array Value) (hg : w.heap[g]? = some (.cells cur 70 (0, 0))) (hc : cur.size ≠ 0) (W : World) (hW : W = w.alloc (.cells #[c0, c1] 70)) :
    (callFunc 50 #[.slice (some ⟨w.heap.size, 0, none⟩) 1 1, .slice (some ⟨g, i, none⟩) lb cb]).run Try.prog W = .ok (.value (.bool false)) W := by
  have hgl := (Array.getElem?_eq_some_iff.1 hg).1
  have hg' : W.heap[g]? = some (.cells cur 70 (0, 0)) := by rw [hW]; exact (Below.heap_alloc _ _ _ hgl).trans hg
  have hn : W.heap[w.heap.size]? = some (.cells #[c0, c1] 70 (0, 0)) := by rw [hW]; exact heap_alloc_new _ _
  clear hW
  rw [run_callFunc_extern Try.func50 (by kernel_rfl) (by kernel_rfl) (by kernel_rfl) (e := Extern.SlicesOverlaps.overlaps #[24, 24] #[4]) (by kernel_rfl),
    Lib.run_overlaps_apart _ 24 4 70 Try.underlying24 2 (fun _ => by kernel_rfl) ⟨w.heap.size, 0, none⟩ ⟨g, i, none⟩ 1 1 lb cb (by simp; omega) 70 70 2 cur.size (by simp [World.shape?, hn]) (by simp [World.shape?, hg']) hc (by simp [World.frozen?, hn]) (by simp [World.frozen?, hn])]
  rfl
set_option maxHeartbeats 4000000 in
set_option maxRecDepth 100000 in
theorem insRoomS (X : Nat → Prop) (L : M.Ents (List UInt8)) (k : List UInt8) (x : Int) (i g cap : Nat) (cur : Array Value) (w : World) (hL : L.length ≤ 1000) (hi : i < L.length)
    (hg : w.heap[g]? = some (.cells cur 70 (0, 0))) (hr : L.length + 1 ≤ cap) (hm : cap ≤ maxLen) (hs : cur.size = cap * 2) (ht : cur.toList.take (L.length * 2) = csS L) (hx : ¬ X g) (hX : ∀ k, X k → k < w.heap.size) :
    Calls Try.prog 33 #[.slice (some ⟨g, 0, none⟩) L.length cap, .int .i64 i, .slice (some ⟨w.heap.size, 0, none⟩) 1 1] (w.alloc (.cells #[(Value.string (M.bs k)), .int .i64 x] 70)) fun e w' =>
      ∃ v', e = .returned v' ∧ Own 70 2 X w' v' (L.length + 1) (csS (L.take i ++ (k, x) :: L.drop i)) ∧ Keep X w w' := by
  have hgl := (Array.getElem?_eq_some_iff.1 hg).1
  have hov := fun i lb cb W hW => ovS w g i lb cb (Value.string (M.bs k)) (.int .i64 x) cur hg (by omega) W hW
  have hg' : (w.alloc (.cells #[(Value.string (M.bs k)), .int .i64 x] 70)).drew.heap[g]? = some (.cells cur 70 (0, 0)) := (Below.heap_alloc _ _ _ hgl).trans hg
  have hn' : (w.alloc (.cells #[(Value.string (M.bs k)), .int .i64 x] 70)).drew.heap[w.heap.size]? = some (.cells #[(Value.string (M.bs k)), .int .i64 x] 70 (0, 0)) := heap_alloc_new _ _
  obtain ⟨W1, hW1⟩ : ∃ W1, W1 = (w.alloc (.cells #[(Value.string (M.bs k)), .int .i64 x] 70)).drew := ⟨_, rfl⟩
  rw [← hW1] at hg' hn'
  have hlen := csS_length L
  have hdl : ((csS L).drop (i * 2)).length = (L.length - i) * 2 := by rw [List.length_drop, hlen]; omega
  have hcell : ∀ j, j < L.length * 2 → W1.cell? ⟨g, j, none⟩ = (csS L)[j]? := fun j hj => by
    rw [cell_of_row W1 g j cur 70 (0, 0) hg', ← ht, List.getElem?_take, if_pos hj]; simp
  have hcp1 : ∀ ty dc sc, (Builtin.copy_ #[24, 24] ty #[.slice (some ⟨g, (i + 1) * 2, none⟩) (L.length - i) dc, .slice (some ⟨g, i * 2, none⟩) (L.length + 1 - i) sc]).run Try.prog W1 = _ := fun ty dc sc =>
    run_copyK W1 24 24 ty 70 g ((i + 1) * 2) (L.length - i) dc ⟨g, i * 2, none⟩ (L.length + 1 - i) sc 2 cur 70 ((csS L).drop (i * 2)) Try.underlying24 size70 hg' (by
      rw [hdl]; congr 1; simp only [Nat.min_def]; split <;> omega) (fun j u hj => by
      have hjl := (List.getElem?_eq_some_iff.1 hj).1
      rw [add_lit, hcell _ (by rw [hdl] at hjl; omega)]
      rwa [List.getElem?_drop] at hj) (by rw [hdl, hs]; omega) (fun u hu => csS_one L u (List.mem_of_mem_drop hu))
  obtain ⟨R1, hR1⟩ : ∃ R1 : Array Value, R1 = (cur.toList.take ((i + 1) * 2) ++ (csS L).drop (i * 2) ++ cur.toList.drop ((i + 1) * 2 + ((csS L).drop (i * 2)).length)).toArray := ⟨_, rfl⟩
  rw [← hR1] at hcp1
  have hR1s : R1.size = cap * 2 := by rw [hR1]; simp [hlen, hs]; omega
  have hg2 : (W1.setRow g R1).heap[g]? = some (.cells R1 70 (0, 0)) := setRow_heap _ g cur _ 70 _ hg'
  have hn2 : (W1.setRow g R1).heap[w.heap.size]? = some (.cells #[(Value.string (M.bs k)), .int .i64 x] 70 (0, 0)) := by rw [setRow_other _ _ _ _ (by omega)]; exact hn'
  have hcp2 : ∀ W, W = W1.setRow g R1 → ∀ ty dc, (Builtin.copy_ #[24, 24] ty #[.slice (some ⟨g, i * 2, none⟩) (L.length + 1 - i) dc, .slice (some ⟨w.heap.size, 0, none⟩) 1 1]).run Try.prog W = _ := fun W hW ty dc => by
    subst hW
    exact run_copyK (W1.setRow g R1) 24 24 ty 70 g (i * 2) (L.length + 1 - i) dc ⟨w.heap.size, 0, none⟩ 1 1 2 R1 70 [(Value.string (M.bs k)), .int .i64 x] Try.underlying24 size70 hg2 (by
      rw [show Nat.min 1 (L.length + 1 - i) = 1 by simp only [Nat.min_def]; split <;> omega]; rfl) (fun j u hj => by
      rw [add_lit, cell_of_row _ w.heap.size _ _ 70 (0, 0) hn2]; simpa using hj) (by simp [hR1s]; omega) (by intro u hu; simp at hu; rcases hu with rfl | rfl <;> rfl)
  have hz1 : ¬ ((i : Int) = (L.length : Int)) := by omega
  obtain ⟨R2, hR2⟩ : ∃ R2 : Array Value, R2 = (R1.toList.take (i * 2) ++ [(Value.string (M.bs k)), .int .i64 x] ++ R1.toList.drop (i * 2 + ([(Value.string (M.bs k)), .int .i64 x] : List Value).length)).toArray := ⟨_, rfl⟩
  rw [← hR2] at hcp2
  have hfin : Hid (Own 70 2 X ((W1.setRow g R1).setRow g R2) (.slice (some ⟨g, 0, none⟩) (L.length + 1) cap) (L.length + 1) (csS (L.take i ++ (k, x) :: L.drop i)) ∧ Keep X w ((W1.setRow g R1).setRow g R2)) := by
    rw [hR2]
    refine ⟨⟨⟨by rw [csS_length]; simp; omega, .inr ⟨g, cap, _, rfl, Nat.zero_le _, setRow_heap _ g R1 _ 70 _ hg2, hr, hm, ?_, ?_⟩⟩, fun g' hg' => ?_⟩, ?_⟩
    · simp [hR1s]; omega
    · have e0 : csS (L.take i ++ (k, x) :: L.drop i) = (csS L).take (i * 2) ++ [(Value.string (M.bs k)), .int .i64 x] ++ (csS L).drop (i * 2) := by
        rw [csS_append, csS_take L i (by omega), ← csS_drop L i (by omega)]; simp [csS]
      have e1 : R1.toList.take (i * 2) = (csS L).take (i * 2) := by
        rw [hR1]
        simp only [List.append_assoc]
        rw [List.take_append_of_le_length (by simp [hs]; omega), List.take_take, ← ht, List.take_take]
        congr 1; omega
      have e2 : (R1.toList.drop (i * 2 + ([(Value.string (M.bs k)), .int .i64 x] : List Value).length)).take ((L.length - i) * 2) = (csS L).drop (i * 2) := by
        show (R1.toList.drop (i * 2 + 2)).take ((L.length - i) * 2) = _
        rw [hR1]
        simp only [List.append_assoc]
        rw [List.drop_left' (by simp [hs]; omega), List.take_left' hdl]
      rw [e0, e1]
      simp only
      rw [show (L.length + 1) * 2 = (csS L |>.take (i * 2)).length + ([(Value.string (M.bs k)), Value.int .i64 x]).length + (L.length - i) * 2 by simp [hlen]; omega]
      rw [← List.length_append, List.take_length_add_append, e2]
    · obtain rfl : g = g' := by simpa [Value.ownBlock] using hg'
      exact hx
    · rw [hW1]
      exact ((((Keep.refl X w).al hX _).dr).setRow hx _).setRow hx _
  subst hW1
  have HC1 := hcp1
  have HC2 := hcp2 _ rfl
  have HV := fun i lb cb => hov i lb cb _ rfl
  clear hcp1 hcp2 hov hg' hn' hcell hg2 hn2 hR1s hR1 hR2 ht hs hg hdl hlen
  unfold maxLen at hm
  have hw1 : IntKind.i64.wrap ((i : Int) + 1) = (i : Int) + 1 := by rw [IntKind.wrap_i64]; omega
  have hb1 : (0 : Int) ≤ (i : Int) + 1 := by omega
  have htn : ((i : Int) + 1).toNat = i + 1 := by omega
  have hb2 : ¬ (cap = i + 1) := by omega
  have hb3 : (i : Int) ≤ (L.length : Int) + 1 := by omega
  have hb4 : ¬ (cap = i) := by omega
  have hb5 : (i : Int) ≤ (L.length : Int) := by omega
  go_enter Try.func33, Try.ntmps33
  go_wp2_with (simp only [HV])
  go_region_law (refine step_copy_runI rfl _ _ 24 24 rfl _ _ (by simp [Act.eval, Act.put]) (by simp [Act.eval, Act.put]) (HC1 _ _ _) ?_)
  go_wp2_with (at_builtin; refine wpList_copy_runI _ rfl _ _ 24 24 rfl _ _ rfl rfl (HC2 _ _) ?_)
  go_ret
  exact ⟨_, rfl, hfin.out⟩
set_option maxHeartbeats 4000000 in
set_option maxRecDepth 100000 in
theorem insGrowS (X : Nat → Prop) (L : M.Ents (List UInt8)) (k : List UInt8) (x : Int) (i g cap : Nat) (cur : Array Value) (w : World) (hL : L.length ≤ 1000) (hi : i < L.length)
    (hg : w.heap[g]? = some (.cells cur 70 (0, 0))) (hnc : L.length ≤ cap) (hr : cap < L.length + 1) (ht : cur.toList.take (L.length * 2) = csS L) (hX : ∀ k, X k → k < w.heap.size) :
    Calls Try.prog 33 #[.slice (some ⟨g, 0, none⟩) L.length cap, .int .i64 i, .slice (some ⟨w.heap.size, 0, none⟩) 1 1] (w.alloc (.cells #[(Value.string (M.bs k)), .int .i64 x] 70)) fun e w' =>
      ∃ v', e = .returned v' ∧ Own 70 2 X w' v' (L.length + 1) (csS (L.take i ++ (k, x) :: L.drop i)) ∧ Keep X w w' := by
  obtain ⟨i0, hi0, hz0, hzs, hzb⟩ := info_parts info70
  have hgl := (Array.getElem?_eq_some_iff.1 hg).1
  obtain ⟨W0, hW0⟩ : ∃ W0, W0 = w.alloc (.cells #[(Value.string (M.bs k)), .int .i64 x] 70) := ⟨_, rfl⟩
  have hs0 : W0.heap.size = w.heap.size + 1 := by rw [hW0]; simp
  have hg0 : W0.heap[g]? = some (.cells cur 70 (0, 0)) := by rw [hW0]; exact (Below.heap_alloc _ _ _ hgl).trans hg
  have hn0 : W0.heap[w.heap.size]? = some (.cells #[(Value.string (M.bs k)), .int .i64 x] 70 (0, 0)) := by rw [hW0]; exact heap_alloc_new _ _
  have hlen := csS_length L
  have hcell : ∀ j, j < L.length * 2 → W0.cell? ⟨g, j, none⟩ = (csS L)[j]? := fun j hj => by
    rw [cell_of_row W0 g j cur 70 (0, 0) hg0, ← ht, List.getElem?_take, if_pos hj]; simp
  have hold : (Builtin.firstCells i0.size i (.slice (some ⟨g, 0, none⟩) i cap)).run Try.prog W0.drew = .ok ((csS L).take (i * 2)).toArray W0.drew := by
    rw [hzs]
    refine run_firstCells_some W0.drew 2 i ⟨g, 0, none⟩ i cap _ (by rw [List.length_take]; omega) (fun j v hj => ?_)
    rw [add_lit]
    rw [List.getElem?_take] at hj
    split at hj
    · show W0.cell? _ = _
      rw [Nat.zero_add, hcell _ (by omega)]; exact hj
    · cases hj
  have hkk : (L.length : Int) + 1 - (i : Int) = ((L.length + 1 - i : Nat) : Int) := by omega
  have hik : i + (L.length + 1 - i) = L.length + 1 := by omega
  obtain ⟨G, hG⟩ : ∃ G, G = grownCap W0 (L.length + 1) cap 70 := ⟨_, rfl⟩
  obtain ⟨ROW, hROW⟩ : ∃ ROW : Array Value, ROW = ((csS L).take (i * 2)).toArray ++ Builtin.zeroCells (Value.agg #[Value.string ⟨#[]⟩, Value.int .i64 0]).cells (L.length + 1 - i) ++ Builtin.zeroCells (Value.agg #[Value.string ⟨#[]⟩, Value.int .i64 0]).cells (G - (L.length + 1)) := ⟨_, rfl⟩
  have hrz : ∀ ty, (Builtin.append_ #[24, 3] ty #[.slice (some ⟨g, 0, none⟩) i cap, .int .i64 ((L.length : Int) + 1 - (i : Int))]).run Try.prog W0 =
      .ok (.slice (some ⟨w.heap.size + 1, 0, none⟩) (L.length + 1) G) (W0.drew.alloc (.cells ROW 70)) := fun ty => by
    have h := Lib.run_append_grow_zeros W0 24 3 ty 70 i0 _ .i64 .i64 Try.underlying24 Try.underlying3 hi0 hz0 (some ⟨g, 0, none⟩) i cap _ hold (L.length + 1 - i) (by omega) (by omega) (by omega) (by omega) (by rw [hzb]; omega) (by rw [hzb, hik]; exact growslice_fits hr (by omega))
    rw [hik, hs0, ← hG, ← hROW] at h
    rw [hkk]
    exact h
  have hGn : L.length + 1 ≤ G := by rw [hG]; exact grownCap_ge _ _ _ _
  have hG63 : G ≤ maxLen := by rw [hG]; exact grownCap_le_maxLen _ _ _ _ (by unfold maxLen; omega)
  have hRs : ROW.size = G * 2 := by
    rw [hROW, Array.size_append, Array.size_append, size_zeroCells, size_zeroCells]
    simp only [List.size_toArray, List.length_take, hlen]
    show min (i * 2) (L.length * 2) + _ * 2 + _ * 2 = _
    omega
  obtain ⟨RA, hRA⟩ : ∃ RA : Array Value, RA = (ROW.toList.take (i * 2) ++ [(Value.string (M.bs k)), .int .i64 x] ++ ROW.toList.drop (i * 2 + ([(Value.string (M.bs k)), .int .i64 x] : List Value).length)).toArray := ⟨_, rfl⟩
  have hRAs : RA.size = G * 2 := by rw [hRA]; simp [hRs]; omega
  have hdl : ((csS L).drop (i * 2)).length = (L.length - i) * 2 := by rw [List.length_drop, hlen]; omega
  obtain ⟨RB, hRB⟩ : ∃ RB : Array Value, RB = (RA.toList.take ((i + 1) * 2) ++ (csS L).drop (i * 2) ++ RA.toList.drop ((i + 1) * 2 + ((csS L).drop (i * 2)).length)).toArray := ⟨_, rfl⟩
  have hRBs : RB.size = G * 2 := by rw [hRB]; simp [hRAs, hlen]; omega
  have hOld : ∀ (W : World), W.heap = (W0.alloc (.cells ROW 70)).heap → W.heap[w.heap.size + 1]? = some (.cells ROW 70 (0, 0)) ∧ W.heap[g]? = some (.cells cur 70 (0, 0)) ∧ W.heap[w.heap.size]? = some (.cells #[(Value.string (M.bs k)), .int .i64 x] 70 (0, 0)) := fun W hW => by
    rw [hW]
    refine ⟨?_, (Below.heap_alloc _ _ _ (by omega)).trans hg0, (Below.heap_alloc _ _ _ (by omega)).trans hn0⟩
    rw [← hs0]; exact heap_alloc_new _ _
  have hcpA : ∀ (W : World), W.heap = (W0.alloc (.cells ROW 70)).heap → ∀ ty dc, (Builtin.copy_ #[24, 24] ty #[.slice (some ⟨w.heap.size + 1, i * 2, none⟩) (L.length + 1 - i) dc, .slice (some ⟨w.heap.size, 0, none⟩) 1 1]).run Try.prog W = .ok (goInt (Nat.min 1 (L.length + 1 - i))) (W.setRow (w.heap.size + 1) RA) := fun W hW ty dc => by
    obtain ⟨h1, h2, h3⟩ := hOld W hW
    rw [hRA]
    exact run_copyK W 24 24 ty 70 (w.heap.size + 1) (i * 2) (L.length + 1 - i) dc ⟨w.heap.size, 0, none⟩ 1 1 2 ROW 70 [(Value.string (M.bs k)), .int .i64 x] Try.underlying24 size70 h1 (by
      rw [show Nat.min 1 (L.length + 1 - i) = 1 by simp only [Nat.min_def]; split <;> omega]; rfl) (fun j u hj => by
      rw [add_lit, cell_of_row _ w.heap.size _ _ 70 (0, 0) h3]; simpa using hj) (by simp [hRs]; omega) (by intro u hu; simp at hu; rcases hu with rfl | rfl <;> rfl)
  have hcpB : ∀ (V W : World), V.heap = (W0.alloc (.cells ROW 70)).heap → W.heap = (V.setRow (w.heap.size + 1) RA).heap → ∀ ty dc sc, (Builtin.copy_ #[24, 24] ty #[.slice (some ⟨w.heap.size + 1, (i + 1) * 2, none⟩) (L.length - i) dc, .slice (some ⟨g, i * 2, none⟩) (L.length - i) sc]).run Try.prog W = .ok (goInt (Nat.min (L.length - i) (L.length - i))) (W.setRow (w.heap.size + 1) RB) := fun V W hV hW ty dc sc => by
    obtain ⟨h1, h2, h3⟩ := hOld V hV
    have hA : W.heap[w.heap.size + 1]? = some (.cells RA 70 (0, 0)) := by rw [hW]; exact setRow_heap _ _ ROW _ 70 _ h1
    have hB : W.heap[g]? = some (.cells cur 70 (0, 0)) := by rw [hW, setRow_other _ _ _ _ (by omega)]; exact h2
    rw [hRB]
    exact run_copyK W 24 24 ty 70 (w.heap.size + 1) ((i + 1) * 2) (L.length - i) dc ⟨g, i * 2, none⟩ (L.length - i) sc 2 RA 70 ((csS L).drop (i * 2)) Try.underlying24 size70 hA (by
      rw [hdl]; congr 1; simp) (fun j u hj => by
      have hjl := (List.getElem?_eq_some_iff.1 hj).1
      rw [add_lit, cell_of_row W g _ cur 70 (0, 0) hB, ← cell_of_row W0 g _ cur 70 (0, 0) hg0, hcell _ (by rw [hdl] at hjl; omega)]
      rwa [List.getElem?_drop] at hj) (by rw [hdl, hRAs]; omega) (fun u hu => csS_one L u (List.mem_of_mem_drop hu))
  have hfin : Hid (∀ (V W : World), V.heap = (W0.alloc (.cells ROW 70)).heap → W.heap = (V.setRow (w.heap.size + 1) RA).heap → Own 70 2 X (W.setRow (w.heap.size + 1) RB) (.slice (some ⟨w.heap.size + 1, 0, none⟩) (L.length + 1) G) (L.length + 1) (csS (L.take i ++ (k, x) :: L.drop i))) := by
    intro V W hV hW
    obtain ⟨h1, h2, h3⟩ := hOld V hV
    have hA : W.heap[w.heap.size + 1]? = some (.cells RA 70 (0, 0)) := by rw [hW]; exact setRow_heap _ _ ROW _ 70 _ h1
    refine ⟨⟨by rw [csS_length]; simp; omega, .inr ⟨_, G, _, rfl, Nat.zero_le _, setRow_heap _ _ RA _ 70 _ hA, hGn, hG63, hRBs, ?_⟩⟩, fun g' hg' hx => ?_⟩
    · have e0 : csS (L.take i ++ (k, x) :: L.drop i) = (csS L).take (i * 2) ++ [(Value.string (M.bs k)), .int .i64 x] ++ (csS L).drop (i * 2) := by
        rw [csS_append, csS_take L i (by omega), ← csS_drop L i (by omega)]; simp [csS]
      have e1 : ROW.toList.take (i * 2) = (csS L).take (i * 2) := by
        rw [hROW, Array.toList_append, Array.toList_append, List.append_assoc, List.take_left' (by simp [hlen]; omega)]
      have e2 : RA.toList.take ((i + 1) * 2) = (csS L).take (i * 2) ++ [(Value.string (M.bs k)), .int .i64 x] := by
        rw [hRA, e1]
        exact List.take_left' (by simp [hlen]; omega)
      rw [e0, hRB, e2]
      exact List.take_left' (by simp [hlen]; omega)
    · obtain rfl : w.heap.size + 1 = g' := by simpa [Value.ownBlock] using hg'
      have := hX _ hx
      omega
  have hz1 : ¬ ((i : Int) = (L.length : Int)) := by omega
  have hz3 : (cap : Int) < (L.length : Int) + 1 := by omega
  have hw1 : IntKind.i64.wrap ((i : Int) + 1) = (i : Int) + 1 := by rw [IntKind.wrap_i64]; omega
  have hb1 : (0 : Int) ≤ (i : Int) + 1 := by omega
  have htn : ((i : Int) + 1).toNat = i + 1 := by omega
  have hb2 : ¬ (G = i + 1) := by omega
  have hb3 : (i : Int) ≤ (L.length : Int) + 1 := by omega
  have hb4 : ¬ (G = i) := by omega
  have hb5 : (i : Int) ≤ (L.length : Int) := by omega
  have hb6 : ¬ (cap = i) := by omega
  have hb7 : G ≤ 9223372036854775807 := by unfold maxLen at hG63; omega
  subst hW0
  have HA := hcpA ((w.alloc (.cells #[(Value.string (M.bs k)), .int .i64 x] 70)).alloc (.cells ROW 70)).drew rfl
  have HB := hcpB
  clear hOld hcpA hcpB hRB hRA hRAs hRBs hROW hRs hG hG63 hold hkk hik hcell hg0 hn0 hs0 hdl ht hlen hg
  go_enter Try.func33, Try.ntmps33
  go_wp2_with (at_builtin; refine Lib.wpList_append_run _ rfl _ _ _ _ rfl _ _ rfl rfl _ _ (hrz _) ?_)
  go_region_law (refine step_copy_runI rfl _ _ 24 24 rfl (.slice (some ⟨w.heap.size + 1, (i + 1) * 2, none⟩) (L.length - i) (G - (i + 1))) (.slice (some ⟨g, i * 2, none⟩) (L.length - i) (cap - i)) (by simp [Act.eval, Act.put]) (by simp [Act.eval, Act.put]) (HB ((w.alloc (.cells #[(Value.string (M.bs k)), .int .i64 x] 70)).alloc (.cells ROW 70)).drew ((((w.alloc (.cells #[(Value.string (M.bs k)), .int .i64 x] 70)).alloc (.cells ROW 70)).drew.setRow (w.heap.size + 1) RA).drew) rfl rfl 3 (G - (i + 1)) (cap - i)) ?_)
  go_wp2
  go_ret
  refine ⟨_, rfl, hfin.out _ _ rfl rfl, ?_⟩
  have hnX : ¬ X (w.heap.size + 1) := fun h => by have := hX _ h; omega
  exact (((((((Keep.refl X w).al hX _).al hX _).dr).setRow hnX _).dr).setRow hnX _)
theorem insertS (X : Nat → Prop) (L : M.Ents (List UInt8)) (k : List UInt8) (x : Int) (i : Nat) (v : Value) (w : World) (hL : L.length ≤ 1000) (hi : i ≤ L.length) (ho : Own 70 2 X w v L.length (csS L)) (hX : ∀ k, X k → k < w.heap.size) :
    Calls Try.prog 33 #[v, .int .i64 i, .slice (some ⟨w.heap.size, 0, none⟩) 1 1] (w.alloc (.cells #[(Value.string (M.bs k)), .int .i64 x] 70)) fun e w' =>
      ∃ v', e = .returned v' ∧ Own 70 2 X w' v' (L.length + 1) (csS (L.take i ++ (k, x) :: L.drop i)) ∧ Keep X w w' := by
  by_cases he : i = L.length
  · subst he
    have := insEndS X L k x v w hL ho hX
    rw [List.take_length, List.drop_length]
    exact this
  · rcases ho.1.2 with ⟨rfl, hn⟩ | ⟨g, cap, cur, rfl, _, hg, hn, hm, hs, ht⟩
    · omega
    · by_cases hr : L.length + 1 ≤ cap
      · exact insRoomS X L k x i g cap cur w hL (by omega) hg hr hm hs ht (ho.2 g rfl) hX
      · exact insGrowS X L k x i g cap cur w hL (by omega) hg hn (by omega) ht hX
theorem two_newI (w : World) (c0 c1 : Value) : ∀ j u, [c0, c1][j]? = some u → (w.alloc (.cells #[c0, c1] 80)).cell? ((⟨w.heap.size, 0, none⟩ : Addr).add j) = some u := by
  intro j u h
  rw [add_lit, World.cell?_alloc_at (hn := rfl)]
  simpa using h
theorem size80 : (Try.prog.info? 80).map (·.size) = some 2 := by kernel_rfl
theorem appEntryI (X : Nat → Prop) (L : M.Ents (Int)) (k : Int) (x : Int) (v : Value) (w : World) (hL : L.length ≤ 1000) (ho : Own 80 2 X w v L.length (csI L)) (hX : ∀ k, X k → k < w.heap.size) :
    ∃ v' w', (∀ ty, (Builtin.append_ #[57, 57] ty #[v, .slice (some ⟨w.heap.size, 0, none⟩) 1 1]).run Try.prog (w.alloc (.cells #[(Value.int .i64 k), .int .i64 x] 80)) = .ok v' w') ∧ Own 80 2 X w' v' (L.length + 1) (csI (L ++ [(k, x)])) ∧ Keep X w w' := by
  obtain ⟨i0, hi, hz0, hz1, hz2⟩ := info_parts info80
  have hcs : csI (L ++ [(k, x)]) = csI L ++ [(Value.int .i64 k), .int .i64 x] := by rw [csI_append]; rfl
  have hone : ∀ u ∈ [(Value.int .i64 k), .int .i64 x], u.oneCell' = true := by intro u hu; simp at hu; rcases hu with rfl | rfl <;> rfl
  have hgrow : ∀ (base : Option Addr) (c : Nat) (_ : c < L.length + 1) (_ : (Builtin.firstCells i0.size L.length (.slice base L.length c)).run Try.prog (w.alloc (.cells #[(Value.int .i64 k), .int .i64 x] 80)).drew = .ok (csI L).toArray (w.alloc (.cells #[(Value.int .i64 k), .int .i64 x] 80)).drew),
      ∃ v' w', (∀ ty, (Builtin.append_ #[57, 57] ty #[.slice base L.length c, .slice (some ⟨w.heap.size, 0, none⟩) 1 1]).run Try.prog (w.alloc (.cells #[(Value.int .i64 k), .int .i64 x] 80)) = .ok v' w') ∧ Own 80 2 X w' v' (L.length + 1) (csI (L ++ [(k, x)])) ∧ Keep X w w' := by
    intro base c hc hf
    refine ⟨_, _, fun ty => run_append_grow_src _ 57 57 ty 80 i0 _ Try.underlying57 hi hz0 base L.length c _ hf _ 1 _
      (Src.ofSlice _ Try.underlying57 ⟨w.heap.size, 0, none⟩ 1 1 [(Value.int .i64 k), .int .i64 x] (by rw [hz1]; rfl) (two_newI w _ _) hone) hc (by omega) (by rw [hz2]; exact growslice_fits hc (by omega)), ?_, ?_⟩
    · refine ⟨⟨by rw [csI_length]; simp, .inr ⟨_, _, _, rfl, Nat.zero_le _, heap_alloc_new _ _, grownCap_ge _ _ _ _, grownCap_le_maxLen _ _ _ _ (by unfold maxLen; omega), ?_, ?_⟩⟩, fun g hg hx => ?_⟩
      · rw [Array.size_append, size_zeroCells]
        have := grownCap_ge (w.alloc (.cells #[(Value.int .i64 k), .int .i64 x] 80)) (L.length + 1) c 80
        simp only [List.size_toArray, List.length_append, csI_length, List.length_cons, List.length_nil]
        show _ + _ * 2 = _
        omega
      · rw [hcs, Array.toList_append, List.take_left' (by simp [csI_length]; omega)]
      · have : g = (w.alloc (.cells #[(Value.int .i64 k), .int .i64 x] 80)).heap.size := by simpa [Value.ownBlock] using hg.symm
        have := hX g hx
        simp at *; omega
    · exact (((Keep.refl X w).al hX _).dr).al hX _
  rcases ho.1.2 with ⟨rfl, hn⟩ | ⟨g, cap, cur, rfl, _, hg, hn, hm, hs, ht⟩
  · rw [hn] at hgrow ⊢
    exact hgrow none 0 (by omega) (by rw [List.length_eq_zero_iff.1 hn]; exact run_firstCells_none _ _ 0 0 0)
  · have hgl := (Array.getElem?_eq_some_iff.1 hg).1
    have hg' : (w.alloc (.cells #[(Value.int .i64 k), .int .i64 x] 80)).heap[g]? = some (.cells cur 80 (0, 0)) := (Below.heap_alloc _ _ _ hgl).trans hg
    by_cases hr : L.length + 1 ≤ cap
    · refine ⟨_, _, fun ty => run_append_room _ 57 ty 80 i0 Try.underlying57 hi g L.length cap cur hg' ⟨w.heap.size, 0, none⟩ 1 1 [(Value.int .i64 k), .int .i64 x] (by rw [hz1]; rfl) (two_newI w _ _) hone hr (by rw [hz1, hs]; simp; omega), ?_, ?_⟩
      · refine ⟨⟨by rw [csI_length]; simp, .inr ⟨g, cap, _, rfl, Nat.zero_le _, setRow_heap _ g cur _ 80 _ hg', hr, hm, ?_, ?_⟩⟩, fun g' hg' => ?_⟩
        · rw [hz1]; simp [hs]; omega
        · rw [hz1, ht, hcs, List.take_left' (by simp [csI_length]; omega)]
        · obtain rfl : g = g' := by simpa [Value.ownBlock] using hg'
          exact ho.2 g rfl
      · exact ((Keep.refl X w).al hX _).setRow (ho.2 g rfl) _
    · refine hgrow _ _ (by omega) ?_
      rw [hz1]
      refine run_firstCells_some _ 2 L.length ⟨g, 0, none⟩ L.length cap (csI L) (csI_length L) (fun j u hj => ?_)
      have := ho.1.cells (g := g) rfl j u hj
      rw [add_lit] at this ⊢
      show (w.alloc (.cells #[(Value.int .i64 k), .int .i64 x] 80)).cell? _ = _
      rw [World.cell?_alloc_past _ _ _ hgl]
      exact this
set_option maxHeartbeats 2000000 in
set_option maxRecDepth 100000 in
theorem insEndI (X : Nat → Prop) (L : M.Ents (Int)) (k : Int) (x : Int) (v : Value) (w : World) (hL : L.length ≤ 1000) (ho : Own 80 2 X w v L.length (csI L)) (hX : ∀ k, X k → k < w.heap.size) :
    Calls Try.prog 44 #[v, .int .i64 L.length, .slice (some ⟨w.heap.size, 0, none⟩) 1 1] (w.alloc (.cells #[(Value.int .i64 k), .int .i64 x] 80)) fun e w' =>
      ∃ v', e = .returned v' ∧ Own 80 2 X w' v' (L.length + 1) (csI (L ++ [(k, x)])) ∧ Keep X w w' := by
  obtain ⟨v', w', hrun, ho', hk'⟩ := appEntryI X L k x v w hL ho hX
  rcases ho.1.2 with ⟨rfl, hn⟩ | ⟨g, cap, cur, rfl, _, hg, hn, hm, hs, ht⟩
  · have ho2 : Own 80 2 X w' v' 1 (csI (L ++ [(k, x)])) := by rw [hn] at ho'; exact ho'
    rw [hn]
    clear ho ho'
    go_enter Try.func44, Try.ntmps44
    go_wp2_with (at_builtin; refine Lib.wpList_append_run _ rfl _ _ _ _ rfl _ _ rfl rfl _ _ (hrun _) ?_)
    go_ret
    exact ⟨_, rfl, ho2, hk'⟩
  · clear ho hg hs ht
    unfold maxLen at hm
    go_enter Try.func44, Try.ntmps44
    go_wp2_with (at_builtin; refine Lib.wpList_append_run _ rfl _ _ _ _ rfl _ _ rfl rfl _ _ (hrun _) ?_)
    all_goals (go_ret; exact ⟨_, rfl, ho', hk'⟩)
theorem ovI (w : World) (g i lb cb : Nat) (c0 c1 : Value) (cur : Array Value) (hg : w.heap[g]? = some (.cells cur 80 (0, 0))) (hc : cur.size ≠ 0) (W : World) (hW : W = w.alloc (.cells #[c0, c1] 80)) :
    (callFunc 58 #[.slice (some ⟨w.heap.size, 0, none⟩) 1 1, .slice (some ⟨g, i, none⟩) lb cb]).run Try.prog W = .ok (.value (.bool false)) W := by
  have hgl := (Array.getElem?_eq_some_iff.1 hg).1
  have hg' : W.heap[g]? = some (.cells cur 80 (0, 0)) := by rw [hW]; exact (Below.heap_alloc _ _ _ hgl).trans hg
  have hn : W.heap[w.heap.size]? = some (.cells #[c0, c1] 80 (0, 0)) := by rw [hW]; exact heap_alloc_new _ _
  clear hW
  rw [run_callFunc_extern Try.func58 (by kernel_rfl) (by kernel_rfl) (by kernel_rfl) (e := Extern.SlicesOverlaps.overlaps #[57, 57] #[4]) (by kernel_rfl),
    Lib.run_overlaps_apart _ 57 4 80 Try.underlying57 2 (fun _ => by kernel_rfl) ⟨w.heap.size, 0, none⟩ ⟨g, i, none⟩ 1 1 lb cb (by simp; omega) 80 80 2 cur.size (by simp [World.shape?, hn]) (by simp [World.shape?, hg']) hc (by simp [World.frozen?, hn]) (by simp [World.frozen?, hn])]
  rfl
set_option maxHeartbeats 4000000 in
set_option maxRecDepth 100000 in
theorem insRoomI (X : Nat → Prop) (L : M.Ents (Int)) (k : Int) (x : Int) (i g cap : Nat) (cur : Array Value) (w : World) (hL : L.length ≤ 1000) (hi : i < L.length)
    (hg : w.heap[g]? = some (.cells cur 80 (0, 0))) (hr : L.length + 1 ≤ cap) (hm : cap ≤ maxLen) (hs : cur.size = cap * 2) (ht : cur.toList.take (L.length * 2) = csI L) (hx : ¬ X g) (hX : ∀ k, X k → k < w.heap.size) :
    Calls Try.prog 44 #[.slice (some ⟨g, 0, none⟩) L.length cap, .int .i64 i, .slice (some ⟨w.heap.size, 0, none⟩) 1 1] (w.alloc (.cells #[(Value.int .i64 k), .int .i64 x] 80)) fun e w' =>
      ∃ v', e = .returned v' ∧ Own 80 2 X w' v' (L.length + 1) (csI (L.take i ++ (k, x) :: L.drop i)) ∧ Keep X w w' := by
  have hgl := (Array.getElem?_eq_some_iff.1 hg).1
  have hov := fun i lb cb W hW => ovI w g i lb cb (Value.int .i64 k) (.int .i64 x) cur hg (by omega) W hW
  have hg' : (w.alloc (.cells #[(Value.int .i64 k), .int .i64 x] 80)).drew.heap[g]? = some (.cells cur 80 (0, 0)) := (Below.heap_alloc _ _ _ hgl).trans hg
  have hn' : (w.alloc (.cells #[(Value.int .i64 k), .int .i64 x] 80)).drew.heap[w.heap.size]? = some (.cells #[(Value.int .i64 k), .int .i64 x] 80 (0, 0)) := heap_alloc_new _ _
  obtain ⟨W1, hW1⟩ : ∃ W1, W1 = (w.alloc (.cells #[(Value.int .i64 k), .int .i64 x] 80)).drew := ⟨_, rfl⟩
  rw [← hW1] at hg' hn'
  have hlen := csI_length L
  have hdl : ((csI L).drop (i * 2)).length = (L.length - i) * 2 := by rw [List.length_drop, hlen]; omega
  have hcell : ∀ j, j < L.length * 2 → W1.cell? ⟨g, j, none⟩ = (csI L)[j]? := fun j hj => by
    rw [cell_of_row W1 g j cur 80 (0, 0) hg', ← ht, List.getElem?_take, if_pos hj]; simp
  have hcp1 : ∀ ty dc sc, (Builtin.copy_ #[57, 57] ty #[.slice (some ⟨g, (i + 1) * 2, none⟩) (L.length - i) dc, .slice (some ⟨g, i * 2, none⟩) (L.length + 1 - i) sc]).run Try.prog W1 = _ := fun ty dc sc =>
    run_copyK W1 57 57 ty 80 g ((i + 1) * 2) (L.length - i) dc ⟨g, i * 2, none⟩ (L.length + 1 - i) sc 2 cur 80 ((csI L).drop (i * 2)) Try.underlying57 size80 hg' (by
      rw [hdl]; congr 1; simp only [Nat.min_def]; split <;> omega) (fun j u hj => by
      have hjl := (List.getElem?_eq_some_iff.1 hj).1
      rw [add_lit, hcell _ (by rw [hdl] at hjl; omega)]
      rwa [List.getElem?_drop] at hj) (by rw [hdl, hs]; omega) (fun u hu => csI_one L u (List.mem_of_mem_drop hu))
  obtain ⟨R1, hR1⟩ : ∃ R1 : Array Value, R1 = (cur.toList.take ((i + 1) * 2) ++ (csI L).drop (i * 2) ++ cur.toList.drop ((i + 1) * 2 + ((csI L).drop (i * 2)).length)).toArray := ⟨_, rfl⟩
  rw [← hR1] at hcp1
  have hR1s : R1.size = cap * 2 := by rw [hR1]; simp [hlen, hs]; omega
  have hg2 : (W1.setRow g R1).heap[g]? = some (.cells R1 80 (0, 0)) := setRow_heap _ g cur _ 80 _ hg'
  have hn2 : (W1.setRow g R1).heap[w.heap.size]? = some (.cells #[(Value.int .i64 k), .int .i64 x] 80 (0, 0)) := by rw [setRow_other _ _ _ _ (by omega)]; exact hn'
  have hcp2 : ∀ W, W = W1.setRow g R1 → ∀ ty dc, (Builtin.copy_ #[57, 57] ty #[.slice (some ⟨g, i * 2, none⟩) (L.length + 1 - i) dc, .slice (some ⟨w.heap.size, 0, none⟩) 1 1]).run Try.prog W = _ := fun W hW ty dc => by
    subst hW
    exact run_copyK (W1.setRow g R1) 57 57 ty 80 g (i * 2) (L.length + 1 - i) dc ⟨w.heap.size, 0, none⟩ 1 1 2 R1 80 [(Value.int .i64 k), .int .i64 x] Try.underlying57 size80 hg2 (by
      rw [show Nat.min 1 (L.length + 1 - i) = 1 by simp only [Nat.min_def]; split <;> omega]; rfl) (fun j u hj => by
      rw [add_lit, cell_of_row _ w.heap.size _ _ 80 (0, 0) hn2]; simpa using hj) (by simp [hR1s]; omega) (by intro u hu; simp at hu; rcases hu with rfl | rfl <;> rfl)
  have hz1 : ¬ ((i : Int) = (L.length : Int)) := by omega
  obtain ⟨R2, hR2⟩ : ∃ R2 : Array Value, R2 = (R1.toList.take (i * 2) ++ [(Value.int .i64 k), .int .i64 x] ++ R1.toList.drop (i * 2 + ([(Value.int .i64 k), .int .i64 x] : List Value).length)).toArray := ⟨_, rfl⟩
  rw [← hR2] at hcp2
  have hfin : Hid (Own 80 2 X ((W1.setRow g R1).setRow g R2) (.slice (some ⟨g, 0, none⟩) (L.length + 1) cap) (L.length + 1) (csI (L.take i ++ (k, x) :: L.drop i)) ∧ Keep X w ((W1.setRow g R1).setRow g R2)) := by
    rw [hR2]
    refine ⟨⟨⟨by rw [csI_length]; simp; omega, .inr ⟨g, cap, _, rfl, Nat.zero_le _, setRow_heap _ g R1 _ 80 _ hg2, hr, hm, ?_, ?_⟩⟩, fun g' hg' => ?_⟩, ?_⟩
    · simp [hR1s]; omega
    · have e0 : csI (L.take i ++ (k, x) :: L.drop i) = (csI L).take (i * 2) ++ [(Value.int .i64 k), .int .i64 x] ++ (csI L).drop (i * 2) := by
        rw [csI_append, csI_take L i (by omega), ← csI_drop L i (by omega)]; simp [csI]
      have e1 : R1.toList.take (i * 2) = (csI L).take (i * 2) := by
        rw [hR1]
        simp only [List.append_assoc]
        rw [List.take_append_of_le_length (by simp [hs]; omega), List.take_take, ← ht, List.take_take]
        congr 1; omega
      have e2 : (R1.toList.drop (i * 2 + ([(Value.int .i64 k), .int .i64 x] : List Value).length)).take ((L.length - i) * 2) = (csI L).drop (i * 2) := by
        show (R1.toList.drop (i * 2 + 2)).take ((L.length - i) * 2) = _
        rw [hR1]
        simp only [List.append_assoc]
        rw [List.drop_left' (by simp [hs]; omega), List.take_left' hdl]
      rw [e0, e1]
      simp only
      rw [show (L.length + 1) * 2 = (csI L |>.take (i * 2)).length + ([(Value.int .i64 k), Value.int .i64 x]).length + (L.length - i) * 2 by simp [hlen]; omega]
      rw [← List.length_append, List.take_length_add_append, e2]
    · obtain rfl : g = g' := by simpa [Value.ownBlock] using hg'
      exact hx
    · rw [hW1]
      exact ((((Keep.refl X w).al hX _).dr).setRow hx _).setRow hx _
  subst hW1
  have HC1 := hcp1
  have HC2 := hcp2 _ rfl
  have HV := fun i lb cb => hov i lb cb _ rfl
  clear hcp1 hcp2 hov hg' hn' hcell hg2 hn2 hR1s hR1 hR2 ht hs hg hdl hlen
  unfold maxLen at hm
  have hw1 : IntKind.i64.wrap ((i : Int) + 1) = (i : Int) + 1 := by rw [IntKind.wrap_i64]; omega
  have hb1 : (0 : Int) ≤ (i : Int) + 1 := by omega
  have htn : ((i : Int) + 1).toNat = i + 1 := by omega
  have hb2 : ¬ (cap = i + 1) := by omega
  have hb3 : (i : Int) ≤ (L.length : Int) + 1 := by omega
  have hb4 : ¬ (cap = i) := by omega
  have hb5 : (i : Int) ≤ (L.length : Int) := by omega
  go_enter Try.func44, Try.ntmps44
  go_wp2_with (simp only [HV])
  go_region_law (refine step_copy_runI rfl _ _ 57 57 rfl _ _ (by simp [Act.eval, Act.put]) (by simp [Act.eval, Act.put]) (HC1 _ _ _) ?_)
  go_wp2_with (at_builtin; refine wpList_copy_runI _ rfl _ _ 57 57 rfl _ _ rfl rfl (HC2 _ _) ?_)
  go_ret
  exact ⟨_, rfl, hfin.out⟩
set_option maxHeartbeats 4000000 in
set_option maxRecDepth 100000 in
theorem insGrowI (X : Nat → Prop) (L : M.Ents (Int)) (k : Int) (x : Int) (i g cap : Nat) (cur : Array Value) (w : World) (hL : L.length ≤ 1000) (hi : i < L.length)
    (hg : w.heap[g]? = some (.cells cur 80 (0, 0))) (hnc : L.length ≤ cap) (hr : cap < L.length + 1) (ht : cur.toList.take (L.length * 2) = csI L) (hX : ∀ k, X k → k < w.heap.size) :
    Calls Try.prog 44 #[.slice (some ⟨g, 0, none⟩) L.length cap, .int .i64 i, .slice (some ⟨w.heap.size, 0, none⟩) 1 1] (w.alloc (.cells #[(Value.int .i64 k), .int .i64 x] 80)) fun e w' =>
      ∃ v', e = .returned v' ∧ Own 80 2 X w' v' (L.length + 1) (csI (L.take i ++ (k, x) :: L.drop i)) ∧ Keep X w w' := by
  obtain ⟨i0, hi0, hz0, hzs, hzb⟩ := info_parts info80
  have hgl := (Array.getElem?_eq_some_iff.1 hg).1
  obtain ⟨W0, hW0⟩ : ∃ W0, W0 = w.alloc (.cells #[(Value.int .i64 k), .int .i64 x] 80) := ⟨_, rfl⟩
  have hs0 : W0.heap.size = w.heap.size + 1 := by rw [hW0]; simp
  have hg0 : W0.heap[g]? = some (.cells cur 80 (0, 0)) := by rw [hW0]; exact (Below.heap_alloc _ _ _ hgl).trans hg
  have hn0 : W0.heap[w.heap.size]? = some (.cells #[(Value.int .i64 k), .int .i64 x] 80 (0, 0)) := by rw [hW0]; exact heap_alloc_new _ _
  have hlen := csI_length L
  have hcell : ∀ j, j < L.length * 2 → W0.cell? ⟨g, j, none⟩ = (csI L)[j]? := fun j hj => by
    rw [cell_of_row W0 g j cur 80 (0, 0) hg0, ← ht, List.getElem?_take, if_pos hj]; simp
  have hold : (Builtin.firstCells i0.size i (.slice (some ⟨g, 0, none⟩) i cap)).run Try.prog W0.drew = .ok ((csI L).take (i * 2)).toArray W0.drew := by
    rw [hzs]
    refine run_firstCells_some W0.drew 2 i ⟨g, 0, none⟩ i cap _ (by rw [List.length_take]; omega) (fun j v hj => ?_)
    rw [add_lit]
    rw [List.getElem?_take] at hj
    split at hj
    · show W0.cell? _ = _
      rw [Nat.zero_add, hcell _ (by omega)]; exact hj
    · cases hj
  have hkk : (L.length : Int) + 1 - (i : Int) = ((L.length + 1 - i : Nat) : Int) := by omega
  have hik : i + (L.length + 1 - i) = L.length + 1 := by omega
  obtain ⟨G, hG⟩ : ∃ G, G = grownCap W0 (L.length + 1) cap 80 := ⟨_, rfl⟩
  obtain ⟨ROW, hROW⟩ : ∃ ROW : Array Value, ROW = ((csI L).take (i * 2)).toArray ++ Builtin.zeroCells (Value.agg #[Value.int .i64 0, Value.int .i64 0]).cells (L.length + 1 - i) ++ Builtin.zeroCells (Value.agg #[Value.int .i64 0, Value.int .i64 0]).cells (G - (L.length + 1)) := ⟨_, rfl⟩
  have hrz : ∀ ty, (Builtin.append_ #[57, 3] ty #[.slice (some ⟨g, 0, none⟩) i cap, .int .i64 ((L.length : Int) + 1 - (i : Int))]).run Try.prog W0 =
      .ok (.slice (some ⟨w.heap.size + 1, 0, none⟩) (L.length + 1) G) (W0.drew.alloc (.cells ROW 80)) := fun ty => by
    have h := Lib.run_append_grow_zeros W0 57 3 ty 80 i0 _ .i64 .i64 Try.underlying57 Try.underlying3 hi0 hz0 (some ⟨g, 0, none⟩) i cap _ hold (L.length + 1 - i) (by omega) (by omega) (by omega) (by omega) (by rw [hzb]; omega) (by rw [hzb, hik]; exact growslice_fits hr (by omega))
    rw [hik, hs0, ← hG, ← hROW] at h
    rw [hkk]
    exact h
  have hGn : L.length + 1 ≤ G := by rw [hG]; exact grownCap_ge _ _ _ _
  have hG63 : G ≤ maxLen := by rw [hG]; exact grownCap_le_maxLen _ _ _ _ (by unfold maxLen; omega)
  have hRs : ROW.size = G * 2 := by
    rw [hROW, Array.size_append, Array.size_append, size_zeroCells, size_zeroCells]
    simp only [List.size_toArray, List.length_take, hlen]
    show min (i * 2) (L.length * 2) + _ * 2 + _ * 2 = _
    omega
  obtain ⟨RA, hRA⟩ : ∃ RA : Array Value, RA = (ROW.toList.take (i * 2) ++ [(Value.int .i64 k), .int .i64 x] ++ ROW.toList.drop (i * 2 + ([(Value.int .i64 k), .int .i64 x] : List Value).length)).toArray := ⟨_, rfl⟩
  have hRAs : RA.size = G * 2 := by rw [hRA]; simp [hRs]; omega
  have hdl : ((csI L).drop (i * 2)).length = (L.length - i) * 2 := by rw [List.length_drop, hlen]; omega
  obtain ⟨RB, hRB⟩ : ∃ RB : Array Value, RB = (RA.toList.take ((i + 1) * 2) ++ (csI L).drop (i * 2) ++ RA.toList.drop ((i + 1) * 2 + ((csI L).drop (i * 2)).length)).toArray := ⟨_, rfl⟩
  have hRBs : RB.size = G * 2 := by rw [hRB]; simp [hRAs, hlen]; omega
  have hOld : ∀ (W : World), W.heap = (W0.alloc (.cells ROW 80)).heap → W.heap[w.heap.size + 1]? = some (.cells ROW 80 (0, 0)) ∧ W.heap[g]? = some (.cells cur 80 (0, 0)) ∧ W.heap[w.heap.size]? = some (.cells #[(Value.int .i64 k), .int .i64 x] 80 (0, 0)) := fun W hW => by
    rw [hW]
    refine ⟨?_, (Below.heap_alloc _ _ _ (by omega)).trans hg0, (Below.heap_alloc _ _ _ (by omega)).trans hn0⟩
    rw [← hs0]; exact heap_alloc_new _ _
  have hcpA : ∀ (W : World), W.heap = (W0.alloc (.cells ROW 80)).heap → ∀ ty dc, (Builtin.copy_ #[57, 57] ty #[.slice (some ⟨w.heap.size + 1, i * 2, none⟩) (L.length + 1 - i) dc, .slice (some ⟨w.heap.size, 0, none⟩) 1 1]).run Try.prog W = .ok (goInt (Nat.min 1 (L.length + 1 - i))) (W.setRow (w.heap.size + 1) RA) := fun W hW ty dc => by
    obtain ⟨h1, h2, h3⟩ := hOld W hW
    rw [hRA]
    exact run_copyK W 57 57 ty 80 (w.heap.size + 1) (i * 2) (L.length + 1 - i) dc ⟨w.heap.size, 0, none⟩ 1 1 2 ROW 80 [(Value.int .i64 k), .int .i64 x] Try.underlying57 size80 h1 (by
      rw [show Nat.min 1 (L.length + 1 - i) = 1 by simp only [Nat.min_def]; split <;> omega]; rfl) (fun j u hj => by
      rw [add_lit, cell_of_row _ w.heap.size _ _ 80 (0, 0) h3]; simpa using hj) (by simp [hRs]; omega) (by intro u hu; simp at hu; rcases hu with rfl | rfl <;> rfl)
  have hcpB : ∀ (V W : World), V.heap = (W0.alloc (.cells ROW 80)).heap → W.heap = (V.setRow (w.heap.size + 1) RA).heap → ∀ ty dc sc, (Builtin.copy_ #[57, 57] ty #[.slice (some ⟨w.heap.size + 1, (i + 1) * 2, none⟩) (L.length - i) dc, .slice (some ⟨g, i * 2, none⟩) (L.length - i) sc]).run Try.prog W = .ok (goInt (Nat.min (L.length - i) (L.length - i))) (W.setRow (w.heap.size + 1) RB) := fun V W hV hW ty dc sc => by
    obtain ⟨h1, h2, h3⟩ := hOld V hV
    have hA : W.heap[w.heap.size + 1]? = some (.cells RA 80 (0, 0)) := by rw [hW]; exact setRow_heap _ _ ROW _ 80 _ h1
    have hB : W.heap[g]? = some (.cells cur 80 (0, 0)) := by rw [hW, setRow_other _ _ _ _ (by omega)]; exact h2
    rw [hRB]
    exact run_copyK W 57 57 ty 80 (w.heap.size + 1) ((i + 1) * 2) (L.length - i) dc ⟨g, i * 2, none⟩ (L.length - i) sc 2 RA 80 ((csI L).drop (i * 2)) Try.underlying57 size80 hA (by
      rw [hdl]; congr 1; simp) (fun j u hj => by
      have hjl := (List.getElem?_eq_some_iff.1 hj).1
      rw [add_lit, cell_of_row W g _ cur 80 (0, 0) hB, ← cell_of_row W0 g _ cur 80 (0, 0) hg0, hcell _ (by rw [hdl] at hjl; omega)]
      rwa [List.getElem?_drop] at hj) (by rw [hdl, hRAs]; omega) (fun u hu => csI_one L u (List.mem_of_mem_drop hu))
  have hfin : Hid (∀ (V W : World), V.heap = (W0.alloc (.cells ROW 80)).heap → W.heap = (V.setRow (w.heap.size + 1) RA).heap → Own 80 2 X (W.setRow (w.heap.size + 1) RB) (.slice (some ⟨w.heap.size + 1, 0, none⟩) (L.length + 1) G) (L.length + 1) (csI (L.take i ++ (k, x) :: L.drop i))) := by
    intro V W hV hW
    obtain ⟨h1, h2, h3⟩ := hOld V hV
    have hA : W.heap[w.heap.size + 1]? = some (.cells RA 80 (0, 0)) := by rw [hW]; exact setRow_heap _ _ ROW _ 80 _ h1
    refine ⟨⟨by rw [csI_length]; simp; omega, .inr ⟨_, G, _, rfl, Nat.zero_le _, setRow_heap _ _ RA _ 80 _ hA, hGn, hG63, hRBs, ?_⟩⟩, fun g' hg' hx => ?_⟩
    · have e0 : csI (L.take i ++ (k, x) :: L.drop i) = (csI L).take (i * 2) ++ [(Value.int .i64 k), .int .i64 x] ++ (csI L).drop (i * 2) := by
        rw [csI_append, csI_take L i (by omega), ← csI_drop L i (by omega)]; simp [csI]
      have e1 : ROW.toList.take (i * 2) = (csI L).take (i * 2) := by
        rw [hROW, Array.toList_append, Array.toList_append, List.append_assoc, List.take_left' (by simp [hlen]; omega)]
      have e2 : RA.toList.take ((i + 1) * 2) = (csI L).take (i * 2) ++ [(Value.int .i64 k), .int .i64 x] := by
        rw [hRA, e1]
        exact List.take_left' (by simp [hlen]; omega)
      rw [e0, hRB, e2]
      exact List.take_left' (by simp [hlen]; omega)
    · obtain rfl : w.heap.size + 1 = g' := by simpa [Value.ownBlock] using hg'
      have := hX _ hx
      omega
  have hz1 : ¬ ((i : Int) = (L.length : Int)) := by omega
  have hz3 : (cap : Int) < (L.length : Int) + 1 := by omega
  have hw1 : IntKind.i64.wrap ((i : Int) + 1) = (i : Int) + 1 := by rw [IntKind.wrap_i64]; omega
  have hb1 : (0 : Int) ≤ (i : Int) + 1 := by omega
  have htn : ((i : Int) + 1).toNat = i + 1 := by omega
  have hb2 : ¬ (G = i + 1) := by omega
  have hb3 : (i : Int) ≤ (L.length : Int) + 1 := by omega
  have hb4 : ¬ (G = i) := by omega
  have hb5 : (i : Int) ≤ (L.length : Int) := by omega
  have hb6 : ¬ (cap = i) := by omega
  have hb7 : G ≤ 9223372036854775807 := by unfold maxLen at hG63; omega
  subst hW0
  have HA := hcpA ((w.alloc (.cells #[(Value.int .i64 k), .int .i64 x] 80)).alloc (.cells ROW 80)).drew rfl
  have HB := hcpB
  clear hOld hcpA hcpB hRB hRA hRAs hRBs hROW hRs hG hG63 hold hkk hik hcell hg0 hn0 hs0 hdl ht hlen hg
  go_enter Try.func44, Try.ntmps44
  go_wp2_with (at_builtin; refine Lib.wpList_append_run _ rfl _ _ _ _ rfl _ _ rfl rfl _ _ (hrz _) ?_)
  go_region_law (refine step_copy_runI rfl _ _ 57 57 rfl (.slice (some ⟨w.heap.size + 1, (i + 1) * 2, none⟩) (L.length - i) (G - (i + 1))) (.slice (some ⟨g, i * 2, none⟩) (L.length - i) (cap - i)) (by simp [Act.eval, Act.put]) (by simp [Act.eval, Act.put]) (HB ((w.alloc (.cells #[(Value.int .i64 k), .int .i64 x] 80)).alloc (.cells ROW 80)).drew ((((w.alloc (.cells #[(Value.int .i64 k), .int .i64 x] 80)).alloc (.cells ROW 80)).drew.setRow (w.heap.size + 1) RA).drew) rfl rfl 3 (G - (i + 1)) (cap - i)) ?_)
  go_wp2
  go_ret
  refine ⟨_, rfl, hfin.out _ _ rfl rfl, ?_⟩
  have hnX : ¬ X (w.heap.size + 1) := fun h => by have := hX _ h; omega
  exact (((((((Keep.refl X w).al hX _).al hX _).dr).setRow hnX _).dr).setRow hnX _)
theorem insertI (X : Nat → Prop) (L : M.Ents (Int)) (k : Int) (x : Int) (i : Nat) (v : Value) (w : World) (hL : L.length ≤ 1000) (hi : i ≤ L.length) (ho : Own 80 2 X w v L.length (csI L)) (hX : ∀ k, X k → k < w.heap.size) :
    Calls Try.prog 44 #[v, .int .i64 i, .slice (some ⟨w.heap.size, 0, none⟩) 1 1] (w.alloc (.cells #[(Value.int .i64 k), .int .i64 x] 80)) fun e w' =>
      ∃ v', e = .returned v' ∧ Own 80 2 X w' v' (L.length + 1) (csI (L.take i ++ (k, x) :: L.drop i)) ∧ Keep X w w' := by
  by_cases he : i = L.length
  · subst he
    have := insEndI X L k x v w hL ho hX
    rw [List.take_length, List.drop_length]
    exact this
  · rcases ho.1.2 with ⟨rfl, hn⟩ | ⟨g, cap, cur, rfl, _, hg, hn, hm, hs, ht⟩
    · omega
    · by_cases hr : L.length + 1 ≤ cap
      · exact insRoomI X L k x i g cap cur w hL (by omega) hg hr hm hs ht (ho.2 g rfl) hX
      · exact insGrowI X L k x i g cap cur w hL (by omega) hg hn (by omega) ht hX
end Go.Proofs.Ytoelaemneoabfab
