/-
  The law OrderMaps, walked.
-/
import Derived.Test.YtoelaemneoabfabQJ
namespace Go.Proofs.Ytoelaemneoabfab
open Go.RowKit
set_option maxRecDepth 100000

theorem OM.bel' {w1 wr : World} {E : M.Ents Tx} {R : M.Rm} {kv vv : Value} {X : Nat → Prop} (h : OM w1 w1.heap.size E R kv vv X wr) : Bel w1 wr := h.kp.below
theorem OM.new (w1 : World) : OM w1 w1.heap.size [] [] (.slice none 0 0) (.slice none 0 0) (fun k => k < w1.heap.size ∨ k = w1.heap.size + 1) ((w1.alloc (.cells #[.slice none 0 0] 26)).alloc (.cells #[.slice none 0 0, .slice none 0 0] 30)) := by
  have hb : Bel w1 ((w1.alloc (.cells #[.slice none 0 0] 26)).alloc (.cells #[.slice none 0 0, .slice none 0 0] 30)) := Bel.al (Bel.al (Below.refl _ _) _) _
  refine ⟨⟨.slice none 0 0, (Bx.new w1 26 _).al _, by omega, ⟨World.ownsRow_nil _ _ _ _, fun g hg => by simp [Value.ownBlock] at hg⟩, by simp [Value.ownBlock], fun k hk => by simp; omega⟩, ?_, ⟨none, 0, none, 0, rfl, rfl, .inl rfl⟩, fun k hk => .inl hk, .inr rfl, fun a n c h => by simp at h, Keep.of_bel hb (fun k hk => hk)⟩
  have := heap_alloc_new (w1.alloc (.cells #[.slice none 0 0] 26)) (.cells #[.slice none 0 0, .slice none 0 0] 30)
  rw [World.size_alloc] at this
  exact this
/-- A call of the document's Set at a step of a region that draws its order. -/
theorem stepR {ops : Array Oper} {o : Oper} {a : Act} {K : Act → World → Prop} {Q : Exit → Act → World → Prop} {E : Prop} {W : World} (hw : Region.wanted o (yielded ops a.tmps) = true)
    (ho : o.op = .call { callee := .value (.func 12), args := #[.tmp 69, .tmp 70, .tmp 75], argTypes := #[30, 9, 3] }) (x y z : Value) (hx : a.eval (.tmp 69) = x) (hy : a.eval (.tmp 70) = y) (hz : a.eval (.tmp 75) = z) {R : Ending → World → Prop}
    (H : Calls Try.prog 12 #[x, y, z] W R) (h : ∀ e w', R e w' → ∃ v, e = .returned v ∧ K (a.put o.dst v) w') :
    if Region.wanted o (yielded ops a.tmps) = true then Oper.wp Try.prog o a W K Q else E := by
  rw [if_pos hw]
  have hx' : a.tmps[69]?.getD undef = x := by rw [← hx]; simp [Act.eval]
  have hy' : a.tmps[70]?.getD undef = y := by rw [← hy]; simp [Act.eval]
  have hz' : a.tmps[75]?.getD undef = z := by rw [← hz]; simp [Act.eval]
  clear hx hy hz hw
  obtain ⟨dst, op, type, pos, after, guard⟩ := o
  simp only at ho h ⊢
  subst ho
  go_simp
  refine H.mono ?_
  intro e w' hR
  obtain ⟨v, rfl, hv⟩ := h e w' hR
  exact hv
theorem stepAll {ops : Array Oper} {o : Oper} {a : Act} {K : Act → World → Prop} {Q : Exit → Act → World → Prop} {E : Prop} {W : World} (hw : Region.wanted o (yielded ops a.tmps) = true)
    (ho : o.op = .call { callee := .value (.func 16), args := #[.tmp 5], argTypes := #[26] }) (x0 : Value) (h0 : a.eval (.tmp 5) = x0) {R : Ending → World → Prop}
    (H : Calls Try.prog 16 #[x0] W R) (h : ∀ e w', R e w' → ∃ v, e = .returned v ∧ K (a.put o.dst v) w') :
    if Region.wanted o (yielded ops a.tmps) = true then Oper.wp Try.prog o a W K Q else E := by
  rw [if_pos hw]
  have h0' : a.tmps[5]?.getD undef = x0 := by rw [← h0]; simp [Act.eval]
  clear h0 hw
  obtain ⟨dst, op, type, pos, after, guard⟩ := o
  simp only at ho h ⊢
  subst ho
  go_simp
  refine H.mono ?_
  intro e w' hR
  obtain ⟨v, rfl, hv⟩ := h e w' hR
  exact hv
theorem stepFrom {ops : Array Oper} {o : Oper} {a : Act} {K : Act → World → Prop} {Q : Exit → Act → World → Prop} {E : Prop} {W : World} (hw : Region.wanted o (yielded ops a.tmps) = true)
    (ho : o.op = .call { callee := .value (.func 17), args := #[.tmp 5, .tmp 107], argTypes := #[26, 9] }) (x0 x1 : Value) (h0 : a.eval (.tmp 5) = x0) (h1 : a.eval (.tmp 107) = x1) {R : Ending → World → Prop}
    (H : Calls Try.prog 17 #[x0, x1] W R) (h : ∀ e w', R e w' → ∃ v, e = .returned v ∧ K (a.put o.dst v) w') :
    if Region.wanted o (yielded ops a.tmps) = true then Oper.wp Try.prog o a W K Q else E := by
  rw [if_pos hw]
  have h0' : a.tmps[5]?.getD undef = x0 := by rw [← h0]; simp [Act.eval]
  have h1' : a.tmps[107]?.getD undef = x1 := by rw [← h1]; simp [Act.eval]
  clear h0 h1 hw
  obtain ⟨dst, op, type, pos, after, guard⟩ := o
  simp only at ho h ⊢
  subst ho
  go_simp
  refine H.mono ?_
  intro e w' hR
  obtain ⟨v, rfl, hv⟩ := h e w' hR
  exact hv
theorem stepT1 {ops : Array Oper} {o : Oper} {a : Act} {K : Act → World → Prop} {Q : Exit → Act → World → Prop} {E : Prop} {W : World} (hw : Region.wanted o (yielded ops a.tmps) = true)
    (ho : o.op = .call { callee := .value (.func 15), args := #[.tmp 5, .tmp 103, .tmp 104, .const (.string ⟨#[]⟩)], argTypes := #[42, 43, 30, 9] }) (x0 x1 x2 : Value) (h0 : a.eval (.tmp 5) = x0) (h1 : a.eval (.tmp 103) = x1) (h2 : a.eval (.tmp 104) = x2) {R : Ending → World → Prop}
    (H : Calls Try.prog 15 #[x0, x1, x2, (.string ⟨#[]⟩)] W R) (h : ∀ e w', R e w' → ∃ v, e = .returned v ∧ K (a.put o.dst v) w') :
    if Region.wanted o (yielded ops a.tmps) = true then Oper.wp Try.prog o a W K Q else E := by
  rw [if_pos hw]
  have h0' : a.tmps[5]?.getD undef = x0 := by rw [← h0]; simp [Act.eval]
  have h1' : a.tmps[103]?.getD undef = x1 := by rw [← h1]; simp [Act.eval]
  have h2' : a.tmps[104]?.getD undef = x2 := by rw [← h2]; simp [Act.eval]
  clear h0 h1 h2 hw
  obtain ⟨dst, op, type, pos, after, guard⟩ := o
  simp only at ho h ⊢
  subst ho
  go_simp
  refine H.mono ?_
  intro e w' hR
  obtain ⟨v, rfl, hv⟩ := h e w' hR
  exact hv
theorem stepT2 {ops : Array Oper} {o : Oper} {a : Act} {K : Act → World → Prop} {Q : Exit → Act → World → Prop} {E : Prop} {W : World} (hw : Region.wanted o (yielded ops a.tmps) = true)
    (ho : o.op = .call { callee := .value (.func 15), args := #[.tmp 5, .tmp 108, .tmp 109, .tmp 110], argTypes := #[42, 43, 30, 9] }) (x0 x1 x2 x3 : Value) (h0 : a.eval (.tmp 5) = x0) (h1 : a.eval (.tmp 108) = x1) (h2 : a.eval (.tmp 109) = x2) (h3 : a.eval (.tmp 110) = x3) {R : Ending → World → Prop}
    (H : Calls Try.prog 15 #[x0, x1, x2, x3] W R) (h : ∀ e w', R e w' → ∃ v, e = .returned v ∧ K (a.put o.dst v) w') :
    if Region.wanted o (yielded ops a.tmps) = true then Oper.wp Try.prog o a W K Q else E := by
  rw [if_pos hw]
  have h0' : a.tmps[5]?.getD undef = x0 := by rw [← h0]; simp [Act.eval]
  have h1' : a.tmps[108]?.getD undef = x1 := by rw [← h1]; simp [Act.eval]
  have h2' : a.tmps[109]?.getD undef = x2 := by rw [← h2]; simp [Act.eval]
  have h3' : a.tmps[110]?.getD undef = x3 := by rw [← h3]; simp [Act.eval]
  clear h0 h1 h2 h3 hw
  obtain ⟨dst, op, type, pos, after, guard⟩ := o
  simp only at ho h ⊢
  subst ho
  go_simp
  refine H.mono ?_
  intro e w' hR
  obtain ⟨v, rfl, hv⟩ := h e w' hR
  exact hv
theorem ranges_all (Z : Nat → Prop) (E : M.Ents Tx) (b B : Nat) (W : World) (hE : E.length ≤ 900) (hm : MapS Z W b E) (hB : Bx W B 42 (.pointer (some ⟨b, 0, none⟩))) : Ranges 36 #[.pointer (some ⟨B, 0, none⟩)] (E.drop (M.pos M.cfS E [])) W := by
  rw [M.pos_empty, List.drop_zero]
  exact ⟨enters_of Try.func36 (by kernel_rfl) rfl, fun W' hb g lb' J Jx hA hAx hY X h0 => allcS Z E b B W' (by omega) (Held.bel hm hb) (hB.bel hb) g lb' J Jx hA hAx hY X h0⟩
theorem ranges_from (Z : Nat → Prop) (E : M.Ents Tx) (hu : M.Up M.cfS E) (k : Tx) (b B C : Nat) (W : World) (hE : E.length ≤ 900) (hm : MapS Z W b E) (hB : Bx W B 42 (.pointer (some ⟨b, 0, none⟩))) (hC : Bx W C 9 (.string (M.bs k))) : Ranges 38 #[.pointer (some ⟨B, 0, none⟩), .pointer (some ⟨C, 0, none⟩)] (E.drop (M.pos M.cfS E k)) W :=
  ⟨enters_of Try.func38 (by kernel_rfl) rfl, fun W' hb g lb' J Jx hA hAx hY X h0 => fromcS Z E hu k b B C W' (by omega) (Held.bel hm hb) (hB.bel hb) (hC.bel hb) g lb' J Jx hA hAx hY X h0⟩
set_option maxHeartbeats 16000000 in
theorem maps_any (L : List TA) (a : Option Addr) (cap : Nat) (kf : Tx) (w : World) (hL : L.length ≤ maxLen) (hs : L = [] ∨ ∃ g off, a = some ⟨g, off, none⟩ ∧ RowAct w g off L) (hm : ∀ t ∈ L, t.2.1.length ≤ maxLen) :
    Calls Try.prog 3 #[.slice a L.length cap, .string (M.bs kf)] w fun e w' => e = .returned (.bool true) ∧ Bel w w' := by
  unfold maxLen at hL hm
  go_enter Try.func3, Try.ntmps3
  go_wp2_with fail
  refine (speaks_any _).mono ?_
  rintro e w1 ⟨rfl, bb1⟩
  have H0 := hid (OM.new w1)
  go_wp2_with fail
  go_loopw [7] (fun i wr => ∃ (j : Nat) (E : M.Ents Tx) (R : M.Rm) (kv vv : Value) (X : Nat → Prop), j ≤ L.length ∧ j ≤ 40 ∧ i = .int .i64 j ∧ M.Rel E R ∧ E.length ≤ j ∧ OM w1 w1.heap.size E R kv vv X wr) (fun i _ => 40 - (intOf i).toNat)
  case atStart => exact ⟨0, [], [], _, _, _, Nat.zero_le _, by omega, rfl, M.Rel.nil, Nat.le_refl _, H0.out⟩
  case round =>
    clear H0
    obtain ⟨j, E, R, kv, vv, X, hj, hj40, rfl, hR, hEl, ho⟩ := hrel
    by_cases hlt : j < L.length
    · by_cases hlt2 : j < 40
      · rcases hs with rfl | ⟨g, off, rfl, hr⟩
        · simp at hlt
        obtain ⟨a1, a2, a3⟩ := hr j hlt
        have ht := hm L[j] (List.getElem_mem hlt)
        have hgw : g < w.heap.size := hr.lt (by omega)
        generalize L[j] = e at *
        obtain ⟨aw, tx, an⟩ := e
        simp only at a1 a2 a3 ht
        have bw1 : Bel w wr := bb1.tr ho.bel'
        have c1 := (bel_cell bw1 hgw _).trans a1
        have c2 := (bel_cell bw1 hgw _).trans a2
        have c3 := (bel_cell bw1 hgw _).trans a3
        have z1 : (M.bs tx).size = tx.length := M.bs_size tx
        have hc1 : (M.bs tx).extract 0 (min (tx.length : Int) 20).toNat = M.bs (tx.take 20) := cut_eq tx
        generalize tx.take 20 = kt at *
        have q1 : (0 : Int) ≤ min (tx.length : Int) 20 := by omega
        have q2 : min (tx.length : Int) 20 ≤ (tx.length : Int) := by omega
        have HO := hid ho
        clear ho
        go_wp2_with fail
        go_quiet (fail)
        have b2 : Bel wr (wr.drewN nq) := below_drewN (Below.refl _ _) _
        generalize wr.drewN nq = W2 at b2 ⊢
        have HO2 := hid (HO.out.bel b2)
        clear HO c1 c2 c3 b2
        have k0 := cell_of (i := 0) HO2.out.ref rfl
        have k1 := cell_of (i := 1) HO2.out.ref rfl
        go_wp2_with fail
        have hRl : R.length ≤ 1000 := by have := hR.length; omega
        have hrg := rgetS R kt kv vv W2 hRl HO2.out.sh
        rw [hR.get kt] at hrg
        refine hrg.mono ?_
        clear hrg
        rintro e w3 ⟨rfl, b3⟩
        have HO3 := hid (HO2.out.bel b3)
        have bw3 : Bel w w3 := bb1.tr HO3.out.bel'
        have c1 := (bel_cell bw3 hgw _).trans a1
        have c3 := (bel_cell bw3 hgw _).trans a3
        clear HO2 b3 k0 k1
        have k0 := cell_of (i := 0) HO3.out.ref rfl
        have k1 := cell_of (i := 1) HO3.out.ref rfl
        go_wp2_with fail
        · skip
          refine (delS X E hR.up kt _ w3 (by omega) HO3.out.map).mono ?_
          rintro e w4 ⟨rfl, m4, k4⟩
          have HO4 := hid (HO3.out.turn m4 k4)
          clear m4 k4 HO3 k0 k1
          have k0 := cell_of (i := 0) HO4.out.ref rfl
          have k1 := cell_of (i := 1) HO4.out.ref rfl
          have hq0 : (M.has M.cfS E kt != M.has M.cfS E kt) = false := by simp
          go_wp2_with fail
          refine (rdelS R kt kv vv w4 hRl HO4.out.sh).mono ?_
          rintro e w5 ⟨x, y, rfl, o5, b5⟩
          obtain ⟨ax, cx, rfl⟩ := row_form o5.1
          obtain ⟨ay, cy, rfl⟩ := row_form o5.2
          have HO5 := hid (HO4.out.bel b5)
          have HO6 := hid (HO4.out.newref b5 o5)
          clear k0 k1 o5 HO4 hq0
          have k0 := cell_of (i := 0) HO5.out.ref rfl
          have k1 := cell_of (i := 1) HO5.out.ref rfl
          have f0 := Lib.frozen_of_heap HO5.out.ref 0
          have f1 := Lib.frozen_of_heap HO5.out.ref 1
          clear HO5
          go_wp2_with fail
          clear k0 k1 f0 f1
          generalize (w5.setCell ⟨w1.heap.size + 1, 0, none⟩ (.slice ax (M.rdel R kt).length cx)).setCell ⟨w1.heap.size + 1, 1, none⟩ (.slice ay (M.rdel R kt).length cy) = W6 at *
          obtain ⟨X6, hX6⟩ : ∃ X6, X6 = More X w4 w5 := ⟨_, rfl⟩
          rw [← hX6] at HO6
          clear hX6
          have hR6 := hR.del kt
          have hl6 : (M.del M.cfS E kt).length ≤ j + 1 := by rw [M.del_length]; omega
          have hn6 := hR6.length
          generalize M.del M.cfS E kt = E6 at *
          generalize M.rdel R kt = R6 at *
          have hRl6 : R6.length ≤ 1000 := by omega
          refine (getS X6 E6 hR6.up kt _ W6 (by omega) HO6.out.map).mono ?_
          rintro e w7 ⟨rfl, b7⟩
          have HO7 := hid (HO6.out.bel b7)
          have k0 := cell_of (i := 0) HO7.out.ref rfl
          have k1 := cell_of (i := 1) HO7.out.ref rfl
          clear HO6 b7
          go_wp2_with fail
          have hrg := rgetS R6 kt _ _ w7 hRl6 HO7.out.sh
          rw [hR6.get kt] at hrg
          refine hrg.mono ?_
          clear hrg
          rintro e w8 ⟨rfl, b8⟩
          have HO8 := hid (HO7.out.bel b8)
          clear HO7 b8 k0 k1
          have k0 := cell_of (i := 0) HO8.out.ref rfl
          have hq0 : (M.get M.cfS E6 kt != M.get M.cfS E6 kt) = false := by simp
          have hq1 : (M.has M.cfS E6 kt != M.has M.cfS E6 kt) = false := by simp
          have hq2 : ((E6.length : Int) != (R6.length : Int)) = false := by rw [hn6]; simp
          have HQ : ∀ n, Calls Try.prog 14 #[.pointer (some ⟨w1.heap.size, 0, none⟩)] (w8.drewN n) fun e w' => e = .returned (.int .i64 (E6.length : Nat)) ∧ w' = w8.drewN n := fun n => (lenS X6 E6 w1.heap.size (w8.drewN n) (HO8.out.map.bel (below_drewN (Below.refl _ _) _))).mono (fun e w' ⟨a, b⟩ => ⟨a, b.symm⟩)
          generalize M.get M.cfS E6 kt = gv at *
          generalize M.has M.cfS E6 kt = hv at *
          go_wp2_with fail
          go_quiet ((go_at_call 14; exact Calls.quiet_of_same (HQ _)))
          have b9 : Bel w8 (w8.drewN nq) := below_drewN (Below.refl _ _) _
          have HO9 := hid (HO8.out.bel b9)
          clear HO8 HQ k0 b9
          generalize w8.drewN nq = W9 at *
          go_wp2_with fail
          go_roundw
          case rel => exact ⟨j + 1, E6, R6, _, _, X6, by omega, by omega, by go_num, hR6, hl6, HO9.out⟩
          case measure => simp [intOf]; omega
        · skip
          refine (setS X E hR.up kt an _ w3 (by omega) HO3.out.map).mono ?_
          rintro e w4 ⟨rfl, m4, k4⟩
          have HO4 := hid (HO3.out.turn m4 k4)
          clear m4 k4 HO3 k0 k1 c1 c3
          have HRS := fun W h => rsetS R kt an kv vv W hRl h
          have HO5 := hid (HO4.out.bel (Bel.dr (Below.refl _ _)))
          clear HO4
          have hS : w4.drew.cell? ⟨w1.heap.size + 1, 0, none⟩ = some kv ∧ w4.drew.cell? ⟨w1.heap.size + 1, 1, none⟩ = some vv ∧ w4.drew.cell? ⟨g, off + j * 3 + 2, none⟩ = some (.int .i64 an) := ⟨cell_of (i := 0) HO5.out.ref rfl, cell_of (i := 1) HO5.out.ref rfl, (bel_cell (bb1.tr HO5.out.bel') hgw _).trans a3⟩
          go_wp2_with fail
          refine wp_normal ?_
          refine region_until (S := fun W : World => W.cell? ⟨w1.heap.size + 1, 0, none⟩ = some kv ∧ W.cell? ⟨w1.heap.size + 1, 1, none⟩ = some vv ∧ W.cell? ⟨g, off + j * 3 + 2, none⟩ = some (.int .i64 an)) (m := 8) (by kernel_rfl) ?_
          generalize w4.drew = W5 at HO5 hS ⊢
          refine take_next (i := 0) (.agg #[kv, vv]) [7, 8] (by kernel_rfl) (by kernel_rfl) rfl (by kernel_rfl) (by kernel_rfl) (by kernel_rfl) (by kernel_rfl) (fun _ _ _ h => absurd h.1 (by simp)) (Or.inl ⟨by rfl, fun w' hSw => by obtain ⟨h1, h2, h3⟩ := hSw; go_simp⟩) hS ?_
          simp only [Act.put]
          refine take_next (i := 1) (.string (M.bs kt)) [7, 8] (by kernel_rfl) (by kernel_rfl) rfl (by kernel_rfl) (by kernel_rfl) (by kernel_rfl) (by kernel_rfl) (fun _ _ _ h => absurd h.1 (by simp)) (Or.inl ⟨by rfl, fun w' hSw => by obtain ⟨h1, h2, h3⟩ := hSw; go_simp⟩) hS ?_
          simp only [Act.put]
          refine take_next (i := 2) (.slice (some ⟨g, off, none⟩) L.length cap) [4, 5, 6, 7, 8] (by kernel_rfl) (by kernel_rfl) rfl (by kernel_rfl) (by kernel_rfl) (by kernel_rfl) (by kernel_rfl) (fun _ _ _ h => absurd h.1 (by simp)) (Or.inl ⟨by rfl, fun w' hSw => by obtain ⟨h1, h2, h3⟩ := hSw; go_simp⟩) hS ?_
          simp only [Act.put]
          refine take_next (i := 3) (.int .i64 (j : Int)) [4, 5, 6, 7, 8] (by kernel_rfl) (by kernel_rfl) rfl (by kernel_rfl) (by kernel_rfl) (by kernel_rfl) (by kernel_rfl) (fun _ _ _ h => absurd h.1 (by simp)) (Or.inl ⟨by rfl, fun w' hSw => by obtain ⟨h1, h2, h3⟩ := hSw; go_simp⟩) hS ?_
          simp only [Act.put]
          refine take_next (i := 4) (.pointer (some ⟨g, off + j * 3, none⟩)) [5, 6, 7, 8] (by kernel_rfl) (by kernel_rfl) rfl (by kernel_rfl) (by kernel_rfl) (by kernel_rfl) (by kernel_rfl) (fun _ _ _ h => absurd h.1 (by simp)) (Or.inl ⟨by rfl, fun w' hSw => by obtain ⟨h1, h2, h3⟩ := hSw; go_simp⟩) hS ?_
          simp only [Act.put]
          refine take_next (i := 5) (.pointer (some ⟨g, off + j * 3 + 2, none⟩)) [6, 7, 8] (by kernel_rfl) (by kernel_rfl) rfl (by kernel_rfl) (by kernel_rfl) (by kernel_rfl) (by kernel_rfl) (fun _ _ _ h => absurd h.1 (by simp)) (Or.inl ⟨by rfl, fun w' hSw => by obtain ⟨h1, h2, h3⟩ := hSw; go_simp⟩) hS ?_
          simp only [Act.put]
          refine take_next (i := 6) (.int .i64 an) [7, 8] (by kernel_rfl) (by kernel_rfl) rfl (by kernel_rfl) (by kernel_rfl) (by kernel_rfl) (by kernel_rfl) (fun _ _ _ h => absurd h.1 (by simp)) (Or.inl ⟨by rfl, fun w' hSw => by obtain ⟨h1, h2, h3⟩ := hSw; go_simp⟩) hS ?_
          simp only [Act.put]
          refine until_ready (rs := [7]) (by kernel_rfl) (by simp) ?_
          intro jj hjj
          simp only [List.mem_cons, List.not_mem_nil, or_false] at hjj
          subst hjj
          refine wpOp_step rfl (fun KX hKX => ?_)
          have HX := hid hKX
          clear hKX
          refine stepR (by simp [Region.wanted]) (by rfl) (.agg #[kv, vv]) (.string (M.bs kt)) (.int .i64 an) (by simp [Act.eval]) (by simp [Act.eval]) (by simp [Act.eval]) (HRS _ HO5.out.sh) ?_
          rintro e w7 ⟨x, y, rfl, o7, b7⟩
          refine ⟨_, rfl, ?_⟩
          obtain ⟨ax, cx, rfl⟩ := row_form o7.1
          obtain ⟨ay, cy, rfl⟩ := row_form o7.2
          have HO7 := hid (HO5.out.bel b7)
          refine HX.out _ _ ⟨fun _ => ⟨cell_of (i := 0) HO7.out.ref rfl, cell_of (i := 1) HO7.out.ref rfl, (bel_cell (bb1.tr HO7.out.bel') hgw _).trans a3⟩, ?_⟩
          clear HX
          simp only [Act.put]
          have HO6 := hid (HO5.out.newref b7 o7)
          have f0 := Lib.frozen_of_heap HO7.out.ref 0
          have f1 := Lib.frozen_of_heap HO7.out.ref 1
          have k0 := cell_of (i := 0) HO7.out.ref rfl
          have k1 := cell_of (i := 1) HO7.out.ref rfl
          clear o7 b7 HO7 HO5 HRS hS
          refine until_ready (rs := [8]) (by kernel_rfl) (by simp) ?_
          intro jj hjj
          simp only [List.mem_cons, List.not_mem_nil, or_false] at hjj
          subst hjj
          refine wpOp_step rfl (fun KX hKX => ?_)
          have HX := hid hKX
          clear hKX
          go_simp
          refine HX.out _ _ ⟨fun h => absurd h (by simp), ?_⟩
          clear HX
          refine until_done (by kernel_rfl) ⟨rfl, ?_⟩ _
          clear k0 k1 f0 f1
          generalize (w7.setCell ⟨w1.heap.size + 1, 0, none⟩ (.slice ax (M.rset R kt an).length cx)).setCell ⟨w1.heap.size + 1, 1, none⟩ (.slice ay (M.rset R kt an).length cy) = W6 at *
          obtain ⟨X6, hX6⟩ : ∃ X6, X6 = More X W5 w7 := ⟨_, rfl⟩
          rw [← hX6] at HO6
          clear hX6
          have hR6 := hR.set kt an
          have hl6 : (M.set M.cfS E kt an).length ≤ j + 1 := by rw [M.set_length]; split <;> omega
          have hn6 := hR6.length
          generalize M.set M.cfS E kt an = E6 at *
          generalize M.rset R kt an = R6 at *
          have hRl6 : R6.length ≤ 1000 := by omega
          go_wp2_with fail
          refine (getS X6 E6 hR6.up kt _ W6 (by omega) HO6.out.map).mono ?_
          rintro e w7 ⟨rfl, b7⟩
          have HO7 := hid (HO6.out.bel b7)
          have k0 := cell_of (i := 0) HO7.out.ref rfl
          have k1 := cell_of (i := 1) HO7.out.ref rfl
          clear HO6 b7
          go_wp2_with fail
          have hrg := rgetS R6 kt _ _ w7 hRl6 HO7.out.sh
          rw [hR6.get kt] at hrg
          refine hrg.mono ?_
          clear hrg
          rintro e w8 ⟨rfl, b8⟩
          have HO8 := hid (HO7.out.bel b8)
          clear HO7 b8 k0 k1
          have k0 := cell_of (i := 0) HO8.out.ref rfl
          have hq0 : (M.get M.cfS E6 kt != M.get M.cfS E6 kt) = false := by simp
          have hq1 : (M.has M.cfS E6 kt != M.has M.cfS E6 kt) = false := by simp
          have hq2 : ((E6.length : Int) != (R6.length : Int)) = false := by rw [hn6]; simp
          have HQ : ∀ n, Calls Try.prog 14 #[.pointer (some ⟨w1.heap.size, 0, none⟩)] (w8.drewN n) fun e w' => e = .returned (.int .i64 (E6.length : Nat)) ∧ w' = w8.drewN n := fun n => (lenS X6 E6 w1.heap.size (w8.drewN n) (HO8.out.map.bel (below_drewN (Below.refl _ _) _))).mono (fun e w' ⟨a, b⟩ => ⟨a, b.symm⟩)
          generalize M.get M.cfS E6 kt = gv at *
          generalize M.has M.cfS E6 kt = hv at *
          go_wp2_with fail
          go_quiet ((go_at_call 14; exact Calls.quiet_of_same (HQ _)))
          have b9 : Bel w8 (w8.drewN nq) := below_drewN (Below.refl _ _) _
          have HO9 := hid (HO8.out.bel b9)
          clear HO8 HQ k0 b9
          generalize w8.drewN nq = W9 at *
          go_wp2_with fail
          go_roundw
          case rel => exact ⟨j + 1, E6, R6, _, _, X6, by omega, by omega, by go_num, hR6, hl6, HO9.out⟩
          case measure => simp [intOf]; omega
      · clear hs
        have HO := hid (ho.bel (Bel.dr (Below.refl _ _)))
        clear ho
        have hS : wr.drew.cell? ⟨w1.heap.size + 1, 0, none⟩ = some kv ∧ wr.drew.cell? ⟨w1.heap.size + 1, 1, none⟩ = some vv := ⟨cell_of (i := 0) HO.out.ref rfl, cell_of (i := 1) HO.out.ref rfl⟩
        go_wp2_with fail
        refine wp_normal ?_
        refine region_until (S := fun W : World => W.cell? ⟨w1.heap.size + 1, 0, none⟩ = some kv ∧ W.cell? ⟨w1.heap.size + 1, 1, none⟩ = some vv) (m := 10) (by kernel_rfl) ?_
        generalize wr.drew = W1 at HO hS ⊢
        refine take_next (i := 1) (.agg #[kv, vv]) [2, 3, 9, 10] (by kernel_rfl) (by kernel_rfl) rfl (by kernel_rfl) (by kernel_rfl) (by kernel_rfl) (by kernel_rfl) (fun _ _ _ h => absurd h.1 (by simp)) (Or.inl ⟨by rfl, fun w' hSw => by obtain ⟨h1, h2⟩ := hSw; go_simp⟩) hS ?_
        simp only [Act.put]
        refine until_ready (rs := [0]) (by kernel_rfl) (by simp) ?_
        intro jj hjj
        simp only [List.mem_cons, List.not_mem_nil, or_false] at hjj
        subst hjj
        refine wpOp_step rfl (fun KX hKX => ?_)
        have HX := hid hKX
        clear hKX
        refine stepAll (by simp [Region.wanted]) (by rfl) (.pointer (some ⟨w1.heap.size, 0, none⟩)) (by simp [Act.eval]) (allS _ _) ?_
        rintro e w2 ⟨rfl, hw2⟩
        refine ⟨_, rfl, ?_⟩
        have b2 : Bel W1 w2 := by rw [← hw2]; exact Bel.al (Below.refl _ _) _
        have x2 : Bx w2 W1.heap.size 42 (.pointer (some ⟨w1.heap.size, 0, none⟩)) := by rw [← hw2]; exact Bx.new _ _ _
        clear hw2
        have HO2 := hid (HO.out.bel b2)
        refine HX.out _ _ ⟨fun _ => ⟨cell_of (i := 0) HO2.out.ref rfl, cell_of (i := 1) HO2.out.ref rfl⟩, ?_⟩
        clear HX
        simp only [Act.put]
        refine until_ready (rs := [2]) (by kernel_rfl) (by simp) ?_
        intro jj hjj
        simp only [List.mem_cons, List.not_mem_nil, or_false] at hjj
        subst hjj
        refine wpOp_step rfl (fun KX hKX => ?_)
        have HX := hid hKX
        clear hKX
        refine stepT1 (by simp [Region.wanted]) (by rfl) (.pointer (some ⟨w1.heap.size, 0, none⟩)) (.func (.func 36) #[] #[.pointer (some ⟨W1.heap.size, 0, none⟩)]) (.agg #[kv, vv]) (by simp [Act.eval]) (by simp [Act.eval]) (by simp [Act.eval]) (told_any X E R hR (by omega) [] w1.heap.size 36 _ kv vv _ HO2.out.map HO2.out.sh HO2.out.rows (ranges_all X E _ _ _ (by omega) HO2.out.map x2)) ?_
        rintro e w3 ⟨rfl, k3, m3⟩
        refine ⟨_, rfl, ?_⟩
        have HO3 := hid (HO2.out.turn m3 k3)
        clear k3 m3 x2 b2
        refine HX.out _ _ ⟨fun _ => ⟨cell_of (i := 0) HO3.out.ref rfl, cell_of (i := 1) HO3.out.ref rfl⟩, ?_⟩
        clear HX
        simp only [Act.put]
        refine until_ready (rs := [3]) (by kernel_rfl) (by simp) ?_
        intro jj hjj
        simp only [List.mem_cons, List.not_mem_nil, or_false] at hjj
        subst hjj
        refine wpOp_step rfl (fun KX hKX => ?_)
        have HX := hid hKX
        clear hKX
        go_simp
        refine HX.out _ _ ⟨fun _ => ⟨cell_of (i := 0) HO3.out.ref rfl, cell_of (i := 1) HO3.out.ref rfl⟩, ?_⟩
        clear HX
        have hS := (show w3.cell? ⟨w1.heap.size + 1, 0, none⟩ = some kv ∧ w3.cell? ⟨w1.heap.size + 1, 1, none⟩ = some vv from ⟨cell_of (i := 0) HO3.out.ref rfl, cell_of (i := 1) HO3.out.ref rfl⟩)
        refine take_next (i := 4) (.string (M.bs kf)) [5, 8, 9, 10] (by kernel_rfl) (by kernel_rfl) rfl (by kernel_rfl) (by kernel_rfl) (by kernel_rfl) (by kernel_rfl) (fun _ _ _ h => absurd h.1 (by simp)) (Or.inl ⟨by simp [Region.wanted, yielded], fun w' hSw => by obtain ⟨h1, h2⟩ := hSw; go_simp⟩) hS ?_
        simp only [Act.put]
        refine take_next (i := 6) (.agg #[kv, vv]) [8, 9, 10] (by kernel_rfl) (by kernel_rfl) rfl (by kernel_rfl) (by kernel_rfl) (by kernel_rfl) (by kernel_rfl) (fun _ _ _ h => absurd h.1 (by simp)) (Or.inl ⟨by simp [Region.wanted, yielded], fun w' hSw => by obtain ⟨h1, h2⟩ := hSw; go_simp⟩) hS ?_
        simp only [Act.put]
        refine take_next (i := 7) (.string (M.bs kf)) [8, 9, 10] (by kernel_rfl) (by kernel_rfl) rfl (by kernel_rfl) (by kernel_rfl) (by kernel_rfl) (by kernel_rfl) (fun _ _ _ h => absurd h.1 (by simp)) (Or.inl ⟨by simp [Region.wanted, yielded], fun w' hSw => by obtain ⟨h1, h2⟩ := hSw; go_simp⟩) hS ?_
        simp only [Act.put]
        refine until_ready (rs := [5]) (by kernel_rfl) (by simp) ?_
        intro jj hjj
        simp only [List.mem_cons, List.not_mem_nil, or_false] at hjj
        subst hjj
        refine wpOp_step rfl (fun KX hKX => ?_)
        have HX := hid hKX
        clear hKX
        refine stepFrom (by simp [Region.wanted, yielded]) (by rfl) (.pointer (some ⟨w1.heap.size, 0, none⟩)) (.string (M.bs kf)) (by simp [Act.eval]) (by simp [Act.eval]) (fromS _ _ _) ?_
        rintro e w4 ⟨rfl, hw4⟩
        refine ⟨_, rfl, ?_⟩
        have b4 : Bel w3 w4 := by rw [← hw4]; exact Bel.al (Bel.al (Below.refl _ _) _) _
        have x4 : Bx w4 w3.heap.size 42 (.pointer (some ⟨w1.heap.size, 0, none⟩)) := by rw [← hw4]; exact (Bx.new _ _ _).al _
        have y4 : Bx w4 (w3.heap.size + 1) 9 (.string (M.bs kf)) := by rw [← hw4]; exact bx_at 9 _ (by simp)
        clear hw4
        have HO4 := hid (HO3.out.bel b4)
        refine HX.out _ _ ⟨fun _ => ⟨cell_of (i := 0) HO4.out.ref rfl, cell_of (i := 1) HO4.out.ref rfl⟩, ?_⟩
        clear HX
        simp only [Act.put]
        refine until_ready (rs := [8]) (by kernel_rfl) (by simp) ?_
        intro jj hjj
        simp only [List.mem_cons, List.not_mem_nil, or_false] at hjj
        subst hjj
        refine wpOp_step rfl (fun KX hKX => ?_)
        have HX := hid hKX
        clear hKX
        refine stepT2 (by simp [Region.wanted, yielded]) (by rfl) (.pointer (some ⟨w1.heap.size, 0, none⟩)) (.func (.func 38) #[] #[.pointer (some ⟨w3.heap.size, 0, none⟩), .pointer (some ⟨w3.heap.size + 1, 0, none⟩)]) (.agg #[kv, vv]) (.string (M.bs kf)) (by simp [Act.eval]) (by simp [Act.eval]) (by simp [Act.eval]) (by simp [Act.eval]) (told_any X E R hR (by omega) kf w1.heap.size 38 _ kv vv _ HO4.out.map HO4.out.sh HO4.out.rows (ranges_from X E hR.up kf _ _ _ _ (by omega) HO4.out.map x4 y4)) ?_
        rintro e w5 ⟨rfl, k5, m5⟩
        refine ⟨_, rfl, ?_⟩
        have HO5 := hid (HO4.out.turn m5 k5)
        clear k5 m5 x4 y4 b4
        refine HX.out _ _ ⟨fun _ => ⟨cell_of (i := 0) HO5.out.ref rfl, cell_of (i := 1) HO5.out.ref rfl⟩, ?_⟩
        clear HX
        simp only [Act.put]
        refine until_ready (rs := [9]) (by kernel_rfl) (by simp) ?_
        intro jj hjj
        simp only [List.mem_cons, List.not_mem_nil, or_false] at hjj
        subst hjj
        refine wpOp_step rfl (fun KX hKX => ?_)
        have HX := hid hKX
        clear hKX
        go_simp
        refine HX.out _ _ ⟨fun _ => ⟨cell_of (i := 0) HO5.out.ref rfl, cell_of (i := 1) HO5.out.ref rfl⟩, ?_⟩
        clear HX
        refine until_ready (rs := [10]) (by kernel_rfl) (by simp) ?_
        intro jj hjj
        simp only [List.mem_cons, List.not_mem_nil, or_false] at hjj
        subst hjj
        refine wpOp_step rfl (fun KX hKX => ?_)
        have HX := hid hKX
        clear hKX
        go_simp
        refine HX.out _ _ ⟨fun h => absurd h (by simp), ?_⟩
        clear HX
        refine until_done (by kernel_rfl) ⟨rfl, ?_⟩ _
        go_wp2_with fail
        go_ret
        exact ⟨rfl, bb1.tr HO5.out.bel'⟩
    · clear hs
      have HO := hid (ho.bel (Bel.dr (Below.refl _ _)))
      clear ho
      have hS : wr.drew.cell? ⟨w1.heap.size + 1, 0, none⟩ = some kv ∧ wr.drew.cell? ⟨w1.heap.size + 1, 1, none⟩ = some vv := ⟨cell_of (i := 0) HO.out.ref rfl, cell_of (i := 1) HO.out.ref rfl⟩
      go_wp2_with fail
      refine wp_normal ?_
      refine region_until (S := fun W : World => W.cell? ⟨w1.heap.size + 1, 0, none⟩ = some kv ∧ W.cell? ⟨w1.heap.size + 1, 1, none⟩ = some vv) (m := 10) (by kernel_rfl) ?_
      generalize wr.drew = W1 at HO hS ⊢
      refine take_next (i := 1) (.agg #[kv, vv]) [2, 3, 9, 10] (by kernel_rfl) (by kernel_rfl) rfl (by kernel_rfl) (by kernel_rfl) (by kernel_rfl) (by kernel_rfl) (fun _ _ _ h => absurd h.1 (by simp)) (Or.inl ⟨by rfl, fun w' hSw => by obtain ⟨h1, h2⟩ := hSw; go_simp⟩) hS ?_
      simp only [Act.put]
      refine until_ready (rs := [0]) (by kernel_rfl) (by simp) ?_
      intro jj hjj
      simp only [List.mem_cons, List.not_mem_nil, or_false] at hjj
      subst hjj
      refine wpOp_step rfl (fun KX hKX => ?_)
      have HX := hid hKX
      clear hKX
      refine stepAll (by simp [Region.wanted]) (by rfl) (.pointer (some ⟨w1.heap.size, 0, none⟩)) (by simp [Act.eval]) (allS _ _) ?_
      rintro e w2 ⟨rfl, hw2⟩
      refine ⟨_, rfl, ?_⟩
      have b2 : Bel W1 w2 := by rw [← hw2]; exact Bel.al (Below.refl _ _) _
      have x2 : Bx w2 W1.heap.size 42 (.pointer (some ⟨w1.heap.size, 0, none⟩)) := by rw [← hw2]; exact Bx.new _ _ _
      clear hw2
      have HO2 := hid (HO.out.bel b2)
      refine HX.out _ _ ⟨fun _ => ⟨cell_of (i := 0) HO2.out.ref rfl, cell_of (i := 1) HO2.out.ref rfl⟩, ?_⟩
      clear HX
      simp only [Act.put]
      refine until_ready (rs := [2]) (by kernel_rfl) (by simp) ?_
      intro jj hjj
      simp only [List.mem_cons, List.not_mem_nil, or_false] at hjj
      subst hjj
      refine wpOp_step rfl (fun KX hKX => ?_)
      have HX := hid hKX
      clear hKX
      refine stepT1 (by simp [Region.wanted]) (by rfl) (.pointer (some ⟨w1.heap.size, 0, none⟩)) (.func (.func 36) #[] #[.pointer (some ⟨W1.heap.size, 0, none⟩)]) (.agg #[kv, vv]) (by simp [Act.eval]) (by simp [Act.eval]) (by simp [Act.eval]) (told_any X E R hR (by omega) [] w1.heap.size 36 _ kv vv _ HO2.out.map HO2.out.sh HO2.out.rows (ranges_all X E _ _ _ (by omega) HO2.out.map x2)) ?_
      rintro e w3 ⟨rfl, k3, m3⟩
      refine ⟨_, rfl, ?_⟩
      have HO3 := hid (HO2.out.turn m3 k3)
      clear k3 m3 x2 b2
      refine HX.out _ _ ⟨fun _ => ⟨cell_of (i := 0) HO3.out.ref rfl, cell_of (i := 1) HO3.out.ref rfl⟩, ?_⟩
      clear HX
      simp only [Act.put]
      refine until_ready (rs := [3]) (by kernel_rfl) (by simp) ?_
      intro jj hjj
      simp only [List.mem_cons, List.not_mem_nil, or_false] at hjj
      subst hjj
      refine wpOp_step rfl (fun KX hKX => ?_)
      have HX := hid hKX
      clear hKX
      go_simp
      refine HX.out _ _ ⟨fun _ => ⟨cell_of (i := 0) HO3.out.ref rfl, cell_of (i := 1) HO3.out.ref rfl⟩, ?_⟩
      clear HX
      have hS := (show w3.cell? ⟨w1.heap.size + 1, 0, none⟩ = some kv ∧ w3.cell? ⟨w1.heap.size + 1, 1, none⟩ = some vv from ⟨cell_of (i := 0) HO3.out.ref rfl, cell_of (i := 1) HO3.out.ref rfl⟩)
      refine take_next (i := 4) (.string (M.bs kf)) [5, 8, 9, 10] (by kernel_rfl) (by kernel_rfl) rfl (by kernel_rfl) (by kernel_rfl) (by kernel_rfl) (by kernel_rfl) (fun _ _ _ h => absurd h.1 (by simp)) (Or.inl ⟨by simp [Region.wanted, yielded], fun w' hSw => by obtain ⟨h1, h2⟩ := hSw; go_simp⟩) hS ?_
      simp only [Act.put]
      refine take_next (i := 6) (.agg #[kv, vv]) [8, 9, 10] (by kernel_rfl) (by kernel_rfl) rfl (by kernel_rfl) (by kernel_rfl) (by kernel_rfl) (by kernel_rfl) (fun _ _ _ h => absurd h.1 (by simp)) (Or.inl ⟨by simp [Region.wanted, yielded], fun w' hSw => by obtain ⟨h1, h2⟩ := hSw; go_simp⟩) hS ?_
      simp only [Act.put]
      refine take_next (i := 7) (.string (M.bs kf)) [8, 9, 10] (by kernel_rfl) (by kernel_rfl) rfl (by kernel_rfl) (by kernel_rfl) (by kernel_rfl) (by kernel_rfl) (fun _ _ _ h => absurd h.1 (by simp)) (Or.inl ⟨by simp [Region.wanted, yielded], fun w' hSw => by obtain ⟨h1, h2⟩ := hSw; go_simp⟩) hS ?_
      simp only [Act.put]
      refine until_ready (rs := [5]) (by kernel_rfl) (by simp) ?_
      intro jj hjj
      simp only [List.mem_cons, List.not_mem_nil, or_false] at hjj
      subst hjj
      refine wpOp_step rfl (fun KX hKX => ?_)
      have HX := hid hKX
      clear hKX
      refine stepFrom (by simp [Region.wanted, yielded]) (by rfl) (.pointer (some ⟨w1.heap.size, 0, none⟩)) (.string (M.bs kf)) (by simp [Act.eval]) (by simp [Act.eval]) (fromS _ _ _) ?_
      rintro e w4 ⟨rfl, hw4⟩
      refine ⟨_, rfl, ?_⟩
      have b4 : Bel w3 w4 := by rw [← hw4]; exact Bel.al (Bel.al (Below.refl _ _) _) _
      have x4 : Bx w4 w3.heap.size 42 (.pointer (some ⟨w1.heap.size, 0, none⟩)) := by rw [← hw4]; exact (Bx.new _ _ _).al _
      have y4 : Bx w4 (w3.heap.size + 1) 9 (.string (M.bs kf)) := by rw [← hw4]; exact bx_at 9 _ (by simp)
      clear hw4
      have HO4 := hid (HO3.out.bel b4)
      refine HX.out _ _ ⟨fun _ => ⟨cell_of (i := 0) HO4.out.ref rfl, cell_of (i := 1) HO4.out.ref rfl⟩, ?_⟩
      clear HX
      simp only [Act.put]
      refine until_ready (rs := [8]) (by kernel_rfl) (by simp) ?_
      intro jj hjj
      simp only [List.mem_cons, List.not_mem_nil, or_false] at hjj
      subst hjj
      refine wpOp_step rfl (fun KX hKX => ?_)
      have HX := hid hKX
      clear hKX
      refine stepT2 (by simp [Region.wanted, yielded]) (by rfl) (.pointer (some ⟨w1.heap.size, 0, none⟩)) (.func (.func 38) #[] #[.pointer (some ⟨w3.heap.size, 0, none⟩), .pointer (some ⟨w3.heap.size + 1, 0, none⟩)]) (.agg #[kv, vv]) (.string (M.bs kf)) (by simp [Act.eval]) (by simp [Act.eval]) (by simp [Act.eval]) (by simp [Act.eval]) (told_any X E R hR (by omega) kf w1.heap.size 38 _ kv vv _ HO4.out.map HO4.out.sh HO4.out.rows (ranges_from X E hR.up kf _ _ _ _ (by omega) HO4.out.map x4 y4)) ?_
      rintro e w5 ⟨rfl, k5, m5⟩
      refine ⟨_, rfl, ?_⟩
      have HO5 := hid (HO4.out.turn m5 k5)
      clear k5 m5 x4 y4 b4
      refine HX.out _ _ ⟨fun _ => ⟨cell_of (i := 0) HO5.out.ref rfl, cell_of (i := 1) HO5.out.ref rfl⟩, ?_⟩
      clear HX
      simp only [Act.put]
      refine until_ready (rs := [9]) (by kernel_rfl) (by simp) ?_
      intro jj hjj
      simp only [List.mem_cons, List.not_mem_nil, or_false] at hjj
      subst hjj
      refine wpOp_step rfl (fun KX hKX => ?_)
      have HX := hid hKX
      clear hKX
      go_simp
      refine HX.out _ _ ⟨fun _ => ⟨cell_of (i := 0) HO5.out.ref rfl, cell_of (i := 1) HO5.out.ref rfl⟩, ?_⟩
      clear HX
      refine until_ready (rs := [10]) (by kernel_rfl) (by simp) ?_
      intro jj hjj
      simp only [List.mem_cons, List.not_mem_nil, or_false] at hjj
      subst hjj
      refine wpOp_step rfl (fun KX hKX => ?_)
      have HX := hid hKX
      clear hKX
      go_simp
      refine HX.out _ _ ⟨fun h => absurd h (by simp), ?_⟩
      clear HX
      refine until_done (by kernel_rfl) ⟨rfl, ?_⟩ _
      go_wp2_with fail
      go_ret
      exact ⟨rfl, bb1.tr HO5.out.bel'⟩
end Go.Proofs.Ytoelaemneoabfab
