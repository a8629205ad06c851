/-
  The contract of the document's own Decode for layer 5, walked: where it reads a page.
-/
import Derived.Test.YtaepbmcmggnmpaaDoorDS
import Derived.Test.YtaepbmcmggnmpaaDoorOU
namespace Go.Proofs.YtaepbmcmggnmpaaDoor
open Go.RowKit
set_option maxRecDepth 100000

theorem M.byteAt_lt (l : List UInt8) (i : Nat) : M.byteAt l i < 256 := by unfold M.byteAt; exact UInt8.toNat_lt _
theorem dec_one (n : Nat) : decide (n = 1) = ((n : Int) == 1) := by
  by_cases h : n = 1
  · subst h; rfl
  · rw [decide_eq_false h]; symm; rw [beq_eq_false_iff_ne]; omega
theorem below_grown {w W W' : World} {e : TypeId} {v : Value} {L : List M.En} (h : Bel w W) (own : OwnE e W w.heap.size v L) (g : W.grownBy W' v.ownBlock) : Bel w W' := by
  obtain ⟨_, ⟨h1, _⟩ | ⟨g', cap, cur, hv, hg, hh, _⟩⟩ := own
  · exact h.grown g h.size (by intro k hk; rw [h1] at hk; simp [Value.ownBlock] at hk)
  · exact h.grown g h.size (by intro k hk; rw [hv] at hk; simp [Value.ownBlock] at hk; subst hk; exact hg)
theorem bs_at (l : List UInt8) (i : Nat) (h : i < (M.bs l).size) : ((M.bs l)[i]).toNat = M.byteAt l i := by
  have h' : i < l.length := by rw [M.bs_size] at h; exact h
  unfold M.byteAt
  rw [List.getD_eq_getElem?_getD, List.getElem?_eq_getElem h']
  rfl
theorem M.rl_len (s : List UInt8) : ∀ (n i : Nat) (acc es : List M.En), M.rl s n i acc = some es → es.length = acc.length + n := by
  intro n
  induction n with
  | zero => intro i acc es h; simp only [M.rl, Option.some.injEq] at h; subst h; simp
  | succ n ih =>
    intro i acc es h
    rw [M.rl] at h
    split at h
    · cases h
    · have := ih _ _ _ h
      rw [List.length_append] at this; simp at this; omega
theorem M.get2_lt (l : List UInt8) (i : Nat) (h : i + 2 ≤ l.length) : M.get ((l.drop i).take 2) < 65536 := M.get_lt _ 2 (by rw [List.length_take, List.length_drop]; omega) (by omega)
theorem rget_l (l : List UInt8) (i j : Nat) (_h : j ≤ 512) (W : World) : Calls Tryd.prog 51 #[.string ((M.bs l).extract i j)] W fun e w' => e = .returned (.int .i64 ((M.get ((l.drop i).take (j - i)) : Nat) : Int)) ∧ W = w' := by
  have := rget_any ((M.bs l).extract i j) W (by rw [M.extract_bs, M.bs_size, List.length_take, M.bs_data]; unfold maxLen; omega)
  rw [M.extract_bs, M.bs_data, M.bs_data] at this
  rw [M.extract_bs, M.bs_data]
  exact this
/-- A call of the document's Get at a step of a region that draws its order. -/
theorem stepG {ops : Array Oper} {o : Oper} {a : Act} {K : Act → World → Prop} {Q : Exit → Act → World → Prop} {E : Prop} {W : World} (hw : Region.wanted o (yielded ops a.tmps) = true) (t : Tmp)
    (ho : o.op = .call { callee := .value (.func 51), args := #[.tmp t], argTypes := #[9] }) (x : Value) (hx : a.eval (.tmp t) = x) {R : Ending → World → Prop}
    (H : Calls Tryd.prog 51 #[x] W R) (h : ∀ e w', R e w' → ∃ v, e = .returned v ∧ K (a.put o.dst v) w') :
    if Region.wanted o (yielded ops a.tmps) = true then Oper.wp Tryd.prog o a W K Q else E := by
  rw [if_pos hw]
  have hx' : a.tmps[t]?.getD undef = x := by rw [← hx]; simp [Act.eval]
  clear hx hw
  obtain ⟨dst, op, type, pos, after, guard⟩ := o
  simp only at ho h ⊢
  subst ho
  go_simp
  refine H.mono ?_
  intro e w' hR
  obtain ⟨v, rfl, hv⟩ := h e w' hR
  exact hv
set_option maxHeartbeats 40000000 in
theorem rdecode_main (l : List UInt8) (w : World) (hl : l.length = 512) (hn : M.noughts l = false) (hw : M.wholeR l = true) :
    Calls Tryd.prog 23 #[.string (M.bs l)] w fun e w' => ∃ v, e = .returned (.tuple #[pv (M.rback l (M.rpage l)).1 v, .int .i64 ((M.rback l (M.rpage l)).2 : Int)]) ∧ Vals w' v (M.rback l (M.rpage l)).1.es ∧ Bel w w' := by
  have z : (M.bs l).size = 512 := by rw [M.bs_size, hl]
  have Q1 := fun W => rnothing_any l W (by omega)
  rw [hn] at Q1
  have Q2 := fun W => rwhole_any l W hl
  rw [hw] at Q2
  clear hn hw
  have G1 := fun W => rget_l l 0 6 (by omega) W
  have G2 := fun W => rget_l l 8 10 (by omega) W
  have G3 := fun W => rget_l l 11 13 (by omega) W
  simp only [List.drop_zero, Nat.sub_zero, Nat.reduceSub] at G1 G2 G3
  have hN := M.get2_lt l 11 (by omega)
  have hv6 := bs_at l 6 (by omega)
  have hv7 := bs_at l 7 (by omega)
  have hv10 := bs_at l 10 (by omega)
  have hk10 := M.byteAt_lt l 10
  have hk6 := M.byteAt_lt l 6
  have hk7 := M.byteAt_lt l 7
  have HRP : Hid (M.rpage l = if 502 < 13 + M.byteAt l 10 then none else (M.rl l (M.get ((l.drop 11).take 2)) (13 + M.byteAt l 10) []).map (M.rpg l)) := rfl
  have HPG : Hid (∀ es, M.rpg l es = ⟨(M.get (l.take 6) : Nat), (M.byteAt l 6 : Nat), (M.byteAt l 7 : Nat), (M.get ((l.drop 8).take 2) : Nat), (l.drop 13).take (M.byteAt l 10), es⟩) := fun _ => rfl
  have HL6 := M.get_lt (l.take 6) 6 (by rw [List.length_take]; omega) (by omega)
  generalize M.get (l.take 6) = LS at *
  generalize M.get ((l.drop 8).take 2) = RT at *
  generalize M.get ((l.drop 11).take 2) = NN at *
  generalize M.byteAt l 6 = KD at *
  generalize M.byteAt l 7 = LV at *
  generalize hB10 : M.byteAt l 10 = HG at *
  have HB10 := hid hB10
  have wKD : IntKind.i64.wrap (KD : Int) = (KD : Int) := by rw [IntKind.wrap_i64]; omega
  have wLV : IntKind.i64.wrap (LV : Int) = (LV : Int) := by rw [IntKind.wrap_i64]; omega
  clear hB10
  have bW : Bel w (w.alloc (.cells #[.int .i64 0, .int .i64 0, .int .i64 0, .int .i64 0, .string ⟨#[]⟩, .slice none 0 0] 32)) := Bel.al (Below.refl _ _) _
  have r0 : Bt 32 (w.alloc (.cells #[.int .i64 0, .int .i64 0, .int .i64 0, .int .i64 0, .string ⟨#[]⟩, .slice none 0 0] 32)) w.heap.size (.int .i64 0) (.int .i64 0) (.int .i64 0) (.int .i64 0) (.string ⟨#[]⟩) (.slice none 0 0) := heap_alloc_new w _
  go_enter Tryd.func23, Tryd.ntmps23
  go_wp2_with fail
  generalize w.alloc (.cells #[.int .i64 0, .int .i64 0, .int .i64 0, .int .i64 0, .string ⟨#[]⟩, .slice none 0 0] 32) = W0 at *
  refine (Q1 _).mono ?_
  rintro e w1 ⟨rfl, rfl⟩
  go_wp2_with fail
  refine (Q2 _).mono ?_
  rintro e w2 ⟨rfl, b2⟩
  have r2 := hid (r0.bel b2)
  have bb2 := hid (bW.tr b2)
  clear r0 bW b2 Q1 Q2
  go_wp2_with fail
  go_cut [4] from 27 to 39 (fun s4 wx => s4 = .pointer (some ⟨w2.heap.size, 0, none⟩) ∧ Bt 32 wx w2.heap.size (.int .i64 (LS : Int)) (.int .i64 (KD : Int)) (.int .i64 (LV : Int)) (.int .i64 (RT : Int)) (.string ⟨#[]⟩) (.slice none 0 0) ∧ Bel w2 wx)
  case first =>
    refine wp_normal ?_
    refine region_until (S := fun _ => True) (m := 14) (by kernel_rfl) ?_
    refine take_next (i := 0) (.string (M.bs l)) [1, 2, 12, 14] (by kernel_rfl) (by kernel_rfl) rfl (by kernel_rfl) (by kernel_rfl) (by kernel_rfl) (by kernel_rfl) (fun _ _ _ h => absurd h.1 (by simp)) (Or.inl ⟨by rfl, fun w' _ => by go_simp⟩) trivial ?_
    simp only [Act.put]
    refine take_next (i := 1) (.string ((M.bs l).extract 0 6)) [2, 12, 14] (by kernel_rfl) (by kernel_rfl) rfl (by kernel_rfl) (by kernel_rfl) (by kernel_rfl) (by kernel_rfl) (fun _ _ _ h => absurd h.1 (by simp)) (Or.inl ⟨by rfl, fun w' _ => by go_simp⟩) trivial ?_
    simp only [Act.put]
    refine take_next (i := 3) (.string (M.bs l)) [4, 5, 12, 14] (by kernel_rfl) (by kernel_rfl) rfl (by kernel_rfl) (by kernel_rfl) (by kernel_rfl) (by kernel_rfl) (fun _ _ _ h => absurd h.1 (by simp)) (Or.inl ⟨by rfl, fun w' _ => by go_simp⟩) trivial ?_
    simp only [Act.put]
    refine take_next (i := 4) (.int .u8 (KD : Int)) [5, 12, 14] (by kernel_rfl) (by kernel_rfl) rfl (by kernel_rfl) (by kernel_rfl) (by kernel_rfl) (by kernel_rfl) (fun _ _ _ h => absurd h.1 (by simp)) (Or.inl ⟨by rfl, fun w' _ => by go_simp⟩) trivial ?_
    simp only [Act.put]
    refine take_next (i := 5) (.int .i64 (KD : Int)) [12, 14] (by kernel_rfl) (by kernel_rfl) rfl (by kernel_rfl) (by kernel_rfl) (by kernel_rfl) (by kernel_rfl) (fun _ _ _ h => absurd h.1 (by simp)) (Or.inl ⟨by rfl, fun w' _ => by go_simp⟩) trivial ?_
    simp only [Act.put]
    refine take_next (i := 6) (.string (M.bs l)) [7, 8, 12, 14] (by kernel_rfl) (by kernel_rfl) rfl (by kernel_rfl) (by kernel_rfl) (by kernel_rfl) (by kernel_rfl) (fun _ _ _ h => absurd h.1 (by simp)) (Or.inl ⟨by rfl, fun w' _ => by go_simp⟩) trivial ?_
    simp only [Act.put]
    refine take_next (i := 7) (.int .u8 (LV : Int)) [8, 12, 14] (by kernel_rfl) (by kernel_rfl) rfl (by kernel_rfl) (by kernel_rfl) (by kernel_rfl) (by kernel_rfl) (fun _ _ _ h => absurd h.1 (by simp)) (Or.inl ⟨by rfl, fun w' _ => by go_simp⟩) trivial ?_
    simp only [Act.put]
    refine take_next (i := 8) (.int .i64 (LV : Int)) [12, 14] (by kernel_rfl) (by kernel_rfl) rfl (by kernel_rfl) (by kernel_rfl) (by kernel_rfl) (by kernel_rfl) (fun _ _ _ h => absurd h.1 (by simp)) (Or.inl ⟨by rfl, fun w' _ => by go_simp⟩) trivial ?_
    simp only [Act.put]
    refine take_next (i := 9) (.string (M.bs l)) [10, 11, 12, 14] (by kernel_rfl) (by kernel_rfl) rfl (by kernel_rfl) (by kernel_rfl) (by kernel_rfl) (by kernel_rfl) (fun _ _ _ h => absurd h.1 (by simp)) (Or.inl ⟨by rfl, fun w' _ => by go_simp⟩) trivial ?_
    simp only [Act.put]
    refine take_next (i := 10) (.string ((M.bs l).extract 8 10)) [11, 12, 14] (by kernel_rfl) (by kernel_rfl) rfl (by kernel_rfl) (by kernel_rfl) (by kernel_rfl) (by kernel_rfl) (fun _ _ _ h => absurd h.1 (by simp)) (Or.inl ⟨by rfl, fun w' _ => by go_simp⟩) trivial ?_
    simp only [Act.put]
    refine until_ready (rs := [2, 13]) (by kernel_rfl) (by simp) ?_
    intro jj hjj
    simp only [List.mem_cons, List.not_mem_nil, or_false] at hjj
    rcases hjj with rfl | rfl
    · skip
      refine wpOp_step rfl (fun KX hKX => ?_)
      have HX := hid hKX
      clear hKX
      refine stepG (by simp [Region.wanted]) 28 (by rfl) (.string ((M.bs l).extract 0 6)) (by simp [Act.eval]) (G1 _) ?_
      rintro e w4 ⟨rfl, rfl⟩
      refine ⟨_, rfl, ?_⟩
      refine HX.out _ _ ⟨fun _ => trivial, ?_⟩
      clear HX
      simp only [Act.put]
      refine until_ready (rs := [11, 13]) (by kernel_rfl) (by simp) ?_
      intro jj hjj
      simp only [List.mem_cons, List.not_mem_nil, or_false] at hjj
      rcases hjj with rfl | rfl
      · skip
        refine wpOp_step rfl (fun KX hKX => ?_)
        have HX := hid hKX
        clear hKX
        refine stepG (by simp [Region.wanted]) 37 (by rfl) (.string ((M.bs l).extract 8 10)) (by simp [Act.eval]) (G2 _) ?_
        rintro e w4 ⟨rfl, rfl⟩
        refine ⟨_, rfl, ?_⟩
        refine HX.out _ _ ⟨fun _ => trivial, ?_⟩
        clear HX
        simp only [Act.put]
        refine take_next (i := 12) (.agg #[.int .i64 (LS : Int), .int .i64 (KD : Int), .int .i64 (LV : Int), .int .i64 (RT : Int), .string ⟨#[]⟩, .slice none 0 0]) [14] (by kernel_rfl) (by kernel_rfl) rfl (by kernel_rfl) (by kernel_rfl) (by kernel_rfl) (by kernel_rfl) (fun _ _ _ h => absurd h.1 (by simp)) (Or.inl ⟨by rfl, fun w' _ => by go_simp⟩) trivial ?_
        simp only [Act.put]
        refine until_ready (rs := [13]) (by kernel_rfl) (by simp) ?_
        intro jj hjj
        simp only [List.mem_cons, List.not_mem_nil, or_false] at hjj
        subst hjj
        refine wpOp_step rfl (fun KX hKX => ?_)
        have HX := hid hKX
        clear hKX
        go_simp
        refine HX.out _ _ ⟨fun _ => trivial, ?_⟩
        clear HX
        refine until_ready (rs := [14]) (by kernel_rfl) (by simp) ?_
        intro jj hjj
        simp only [List.mem_cons, List.not_mem_nil, or_false] at hjj
        subst hjj
        refine wpOp_step rfl (fun KX hKX => ?_)
        have HX := hid hKX
        clear hKX
        go_simp
        refine HX.out _ _ ⟨fun _ => trivial, ?_⟩
        clear HX
        refine until_done (by kernel_rfl) ⟨rfl, ?_⟩ _
        go_wp2_with fail
        go_meet
        case rel => exact ⟨rfl, heap_alloc_new w2 _, Bel.dr (Bel.al (Below.refl _ _) _)⟩
      · skip
        refine wpOp_step rfl (fun KX hKX => ?_)
        have HX := hid hKX
        clear hKX
        go_simp
        refine HX.out _ _ ⟨fun _ => trivial, ?_⟩
        clear HX
        refine until_ready (rs := [11]) (by kernel_rfl) (by simp) ?_
        intro jj hjj
        simp only [List.mem_cons, List.not_mem_nil, or_false] at hjj
        subst hjj
        refine wpOp_step rfl (fun KX hKX => ?_)
        have HX := hid hKX
        clear hKX
        refine stepG (by simp [Region.wanted]) 37 (by rfl) (.string ((M.bs l).extract 8 10)) (by simp [Act.eval]) (G2 _) ?_
        rintro e w4 ⟨rfl, rfl⟩
        refine ⟨_, rfl, ?_⟩
        refine HX.out _ _ ⟨fun _ => trivial, ?_⟩
        clear HX
        simp only [Act.put]
        refine until_ready (rs := [12]) (by kernel_rfl) (by simp) ?_
        intro jj hjj
        simp only [List.mem_cons, List.not_mem_nil, or_false] at hjj
        subst hjj
        refine wpOp_step rfl (fun KX hKX => ?_)
        have HX := hid hKX
        clear hKX
        go_simp
        refine HX.out _ _ ⟨fun _ => trivial, ?_⟩
        clear HX
        refine until_ready (rs := [14]) (by kernel_rfl) (by simp) ?_
        intro jj hjj
        simp only [List.mem_cons, List.not_mem_nil, or_false] at hjj
        subst hjj
        refine wpOp_step rfl (fun KX hKX => ?_)
        have HX := hid hKX
        clear hKX
        go_simp
        refine HX.out _ _ ⟨fun _ => trivial, ?_⟩
        clear HX
        refine until_done (by kernel_rfl) ⟨rfl, ?_⟩ _
        go_wp2_with fail
        go_meet
        case rel => exact ⟨rfl, heap_alloc_new w2 _, Bel.dr (Bel.al (Below.refl _ _) _)⟩
    · skip
      refine wpOp_step rfl (fun KX hKX => ?_)
      have HX := hid hKX
      clear hKX
      go_simp
      refine HX.out _ _ ⟨fun _ => trivial, ?_⟩
      clear HX
      refine until_ready (rs := [2]) (by kernel_rfl) (by simp) ?_
      intro jj hjj
      simp only [List.mem_cons, List.not_mem_nil, or_false] at hjj
      subst hjj
      refine wpOp_step rfl (fun KX hKX => ?_)
      have HX := hid hKX
      clear hKX
      refine stepG (by simp [Region.wanted]) 28 (by rfl) (.string ((M.bs l).extract 0 6)) (by simp [Act.eval]) (G1 _) ?_
      rintro e w4 ⟨rfl, rfl⟩
      refine ⟨_, rfl, ?_⟩
      refine HX.out _ _ ⟨fun _ => trivial, ?_⟩
      clear HX
      simp only [Act.put]
      refine until_ready (rs := [11]) (by kernel_rfl) (by simp) ?_
      intro jj hjj
      simp only [List.mem_cons, List.not_mem_nil, or_false] at hjj
      subst hjj
      refine wpOp_step rfl (fun KX hKX => ?_)
      have HX := hid hKX
      clear hKX
      refine stepG (by simp [Region.wanted]) 37 (by rfl) (.string ((M.bs l).extract 8 10)) (by simp [Act.eval]) (G2 _) ?_
      rintro e w4 ⟨rfl, rfl⟩
      refine ⟨_, rfl, ?_⟩
      refine HX.out _ _ ⟨fun _ => trivial, ?_⟩
      clear HX
      simp only [Act.put]
      refine until_ready (rs := [12]) (by kernel_rfl) (by simp) ?_
      intro jj hjj
      simp only [List.mem_cons, List.not_mem_nil, or_false] at hjj
      subst hjj
      refine wpOp_step rfl (fun KX hKX => ?_)
      have HX := hid hKX
      clear hKX
      go_simp
      refine HX.out _ _ ⟨fun _ => trivial, ?_⟩
      clear HX
      refine until_ready (rs := [14]) (by kernel_rfl) (by simp) ?_
      intro jj hjj
      simp only [List.mem_cons, List.not_mem_nil, or_false] at hjj
      subst hjj
      refine wpOp_step rfl (fun KX hKX => ?_)
      have HX := hid hKX
      clear hKX
      go_simp
      refine HX.out _ _ ⟨fun _ => trivial, ?_⟩
      clear HX
      refine until_done (by kernel_rfl) ⟨rfl, ?_⟩ _
      go_wp2_with fail
      go_meet
      case rel => exact ⟨rfl, heap_alloc_new w2 _, Bel.dr (Bel.al (Below.refl _ _) _)⟩
  case rest =>
    obtain ⟨rfl, p3, b3⟩ := hcut
    by_cases hg : 502 < 13 + HG
    · have HR : Hid (M.rback l (M.rpage l) = (M.zeroP, 2)) := by show _ = _; rw [HRP.out, if_pos hg]; rfl
      have hgi : ((502 : Int) < 13 + (HG : Int)) = True := by simp; omega
      clear hg
      go_wp2_with fail
      refine (G3 _).mono ?_
      rintro e w4 ⟨rfl, rfl⟩
      have R0 := hid (r2.out.bel b3)
      have BW := hid (bb2.out.tr b3)
      obtain ⟨z0, z1, z2, z3, z4, z5⟩ := R0.out.cells
      have y0 := R0.out.froz 0
      have y1 := R0.out.froz 1
      have y2 := R0.out.froz 2
      have y3 := R0.out.froz 3
      have y4 := R0.out.froz 4
      have y5 := R0.out.froz 5
      go_wp2_with fail
      clear z0 z1 z2 z3 z4 z5 y0 y1 y2 y3 y4 y5
      have q := R0.out.six (.int .i64 0) (.int .i64 0) (.int .i64 0) (.int .i64 0) (.string ⟨#[]⟩) (.slice none 0 0)
      have b7 := BW.out.six (Nat.le_refl _) (.int .i64 0) (.int .i64 0) (.int .i64 0) (.int .i64 0) (.string ⟨#[]⟩) (.slice none 0 0)
      rw [six] at q b7
      generalize World.setCell _ ⟨w.heap.size, 5, none⟩ (.slice none 0 0) = W9 at *
      obtain ⟨z0, z1, z2, z3, z4, z5⟩ := q.cells
      refine bodyPost_ret (v := .tuple #[pv M.zeroP (.slice none 0 0), .int .i64 2]) (by simp [results, Tryd.results23, go_sem, pv, M.zeroP, z0, z1, z2, z3, z4, z5]; rfl) rfl ?_
      rw [HR.out]
      exact ⟨_, rfl, ⟨none, 0, rfl, .inl rfl⟩, b7⟩
    have hgi : ¬ ((502 : Int) < 13 + (HG : Int)) := by omega
    have hgj : ((502 : Int) < 13 + (HG : Int)) = False := by simp; omega
    go_wp2_with fail
    refine (G3 _).mono ?_
    rintro e w4 ⟨rfl, rfl⟩
    obtain ⟨q0, q1, q2, q3, q4, q5⟩ := p3.cells
    have f4 := p3.froz 4
    go_wp2_with fail
    go_loopw [5, 7] (fun a5 a7 wr => ∃ (k at' : Nat) (acc : List M.En) (ao : Option Addr) (cp : Nat), k ≤ NN ∧ a7 = .int .i64 (k : Int) ∧ a5 = .int .i64 (at' : Int) ∧ at' ≤ 502 ∧ acc.length = k ∧ (∀ e ∈ acc, e.1.length ≤ 255 ∧ e.2.1.length ≤ 255) ∧ 3 * k ≤ at' ∧ M.rl l (NN - k) at' acc = M.rl l NN (13 + HG) [] ∧ OwnE 88 wr w2.heap.size (.slice ao acc.length cp) acc ∧ Bt 32 wr w2.heap.size (.int .i64 (LS : Int)) (.int .i64 (KD : Int)) (.int .i64 (LV : Int)) (.int .i64 (RT : Int)) (.string (M.bs ((l.drop 13).take HG))) (.slice ao acc.length cp) ∧ Bel w2 wr) (fun _ a7 _ => NN - (intOf a7).toNat)
    case atStart =>
      have p4 : Bt 32 _ w2.heap.size _ _ _ _ _ _ := p3.set 4 (.string (M.bs ((l.drop 13).take HG)))
      have hx0 : (M.bs l).extract 13 (13 + HG) = M.bs ((l.drop 13).take HG) := by rw [M.extract_bs, M.bs_data, show 13 + HG - 13 = HG by omega]
      rw [hx0]
      exact ⟨0, 13 + HG, [], none, 0, Nat.zero_le _, rfl, by go_num, by omega, rfl, by simp, by omega, rfl, OwnE.nil _ _ _, p4, Below.setCell b3 (by simp) _⟩
    case round =>
      obtain ⟨k, at', acc, ao, cp, hk, rfl, rfl, ha, hac, hsz, h3k, hrl, own, bx, hb⟩ := hrel
      have HRL := hid hrl
      have HSZ := hid hsz
      have OWN := hid own
      have HAC := hid hac
      clear hrl hsz own hac
      by_cases hlt : k < NN
      case neg =>
        have hkn : k = NN := by omega
        have HPP : Hid (M.rpage l = some (M.rpg l acc)) := by
          show _ = _
          have h1 := HRL.out
          rw [show NN - k = 0 by omega, M.rl] at h1
          rw [HRP.out, if_neg hg, ← h1]; rfl
        have hsm : Sm (M.rpg l acc) := by
          rw [HPG.out]
          exact ⟨by simp only [List.length_take]; omega, by have := HAC.out; simp only; omega, fun e he => by have := HSZ.out e he; omega⟩
        have H14 := fun W h => rencode_any (M.rpg l acc) (.slice ao acc.length cp) W hsm h
        have HPG1 := hid (HPG.out acc)
        simp only [HPG.out acc, pv] at H14
        obtain ⟨P, HP⟩ : ∃ P, P = M.rpg l acc := ⟨_, rfl⟩
        have HP := hid HP
        have hes : (M.rpg l acc).es = acc := by rw [HPG.out]
        clear hes
        have HEN : Hid (M.rback l (M.rpage l) = if M.encode P = (l, 0) then (P, 0) else (M.zeroP, 2)) := by show _ = _; rw [HPP.out, HP.out]; rfl
        rw [← HPG1.out, ← HP.out] at H14
        obtain ⟨S, hS⟩ : ∃ S, S = (M.encode P).1 := ⟨_, rfl⟩
        obtain ⟨cd, hcd⟩ : ∃ cd, cd = (M.encode P).2 := ⟨_, rfl⟩
        rw [← hS, ← hcd] at H14
        have HSC : Hid (M.encode P = (S, cd)) := by show _ = _; rw [hS, hcd]
        clear hS hcd
        obtain ⟨q0, q1, q2, q3, q4, q5⟩ := bx.cells
        have VO := hid (OWN.out.vals)
        go_wp2_with fail
        refine (H14 _ VO.out).mono ?_
        rintro e w5 ⟨rfl, b5⟩
        have b9 := hb.tr b5
        have own5 := OWN.out.bel b5
        have bx5 := bx.bel b5
        clear q0 q1 q2 q3 q4 q5 bx VO OWN hb H14 G1 G2 G3
        by_cases hcd : cd = 0
        case neg =>
          have HR : Hid (M.rback l (M.rpage l) = (M.zeroP, 2)) := by
            show _ = _
            rw [HEN.out, HSC.out, if_neg (by intro e; simp only [Prod.mk.injEq] at e; exact hcd e.2)]
          have hcd2 : ((cd : Int) == 0) = false := by rw [beq_eq_false_iff_ne]; omega
          have R0 := hid (r2.out.bel b9)
          have BW := hid (bb2.out.tr b9)
          obtain ⟨z0, z1, z2, z3, z4, z5⟩ := R0.out.cells
          have y0 := R0.out.froz 0
          have y1 := R0.out.froz 1
          have y2 := R0.out.froz 2
          have y3 := R0.out.froz 3
          have y4 := R0.out.froz 4
          have y5 := R0.out.froz 5
          go_wp2_with fail
          clear z0 z1 z2 z3 z4 z5 y0 y1 y2 y3 y4 y5
          have q := R0.out.six (.int .i64 0) (.int .i64 0) (.int .i64 0) (.int .i64 0) (.string ⟨#[]⟩) (.slice none 0 0)
          have b7 := BW.out.six (Nat.le_refl _) (.int .i64 0) (.int .i64 0) (.int .i64 0) (.int .i64 0) (.string ⟨#[]⟩) (.slice none 0 0)
          rw [six] at q b7
          generalize World.setCell _ ⟨w.heap.size, 5, none⟩ (.slice none 0 0) = W9 at *
          obtain ⟨z0, z1, z2, z3, z4, z5⟩ := q.cells
          refine bodyPost_ret (v := .tuple #[pv M.zeroP (.slice none 0 0), .int .i64 2]) (by simp [results, Tryd.results23, go_sem, pv, M.zeroP, z0, z1, z2, z3, z4, z5]; rfl) rfl ?_
          rw [HR.out]
          exact ⟨_, rfl, ⟨none, 0, rfl, .inl rfl⟩, b7⟩
        case pos =>
          subst hcd
          by_cases hSl : S = l
          case neg =>
            have HR : Hid (M.rback l (M.rpage l) = (M.zeroP, 2)) := by
              show _ = _
              rw [HEN.out, HSC.out, if_neg (by intro e; simp only [Prod.mk.injEq] at e; exact hSl e.1)]
            have hq2 : ((M.bs S).toList == (M.bs l).toList) = false := by rw [beq_eq_false_iff_ne]; intro e; rw [ByteArray.toList_eq, ByteArray.toList_eq] at e; exact hSl e
            have R0 := hid (r2.out.bel b9)
            have BW := hid (bb2.out.tr b9)
            obtain ⟨z0, z1, z2, z3, z4, z5⟩ := R0.out.cells
            have y0 := R0.out.froz 0
            have y1 := R0.out.froz 1
            have y2 := R0.out.froz 2
            have y3 := R0.out.froz 3
            have y4 := R0.out.froz 4
            have y5 := R0.out.froz 5
            go_wp2_with fail
            clear z0 z1 z2 z3 z4 z5 y0 y1 y2 y3 y4 y5
            have q := R0.out.six (.int .i64 0) (.int .i64 0) (.int .i64 0) (.int .i64 0) (.string ⟨#[]⟩) (.slice none 0 0)
            have b7 := BW.out.six (Nat.le_refl _) (.int .i64 0) (.int .i64 0) (.int .i64 0) (.int .i64 0) (.string ⟨#[]⟩) (.slice none 0 0)
            rw [six] at q b7
            generalize World.setCell _ ⟨w.heap.size, 5, none⟩ (.slice none 0 0) = W9 at *
            obtain ⟨z0, z1, z2, z3, z4, z5⟩ := q.cells
            refine bodyPost_ret (v := .tuple #[pv M.zeroP (.slice none 0 0), .int .i64 2]) (by simp [results, Tryd.results23, go_sem, pv, M.zeroP, z0, z1, z2, z3, z4, z5]; rfl) rfl ?_
            rw [HR.out]
            exact ⟨_, rfl, ⟨none, 0, rfl, .inl rfl⟩, b7⟩
          case pos =>
            subst hSl
            have HR : Hid (M.rback S (M.rpage S) = (P, 0)) := by
              show _ = _
              rw [HEN.out, HSC.out, if_pos rfl]
            have R0 := hid (r2.out.bel b9)
            have BW := hid (bb2.out.tr b9)
            obtain ⟨z0, z1, z2, z3, z4, z5⟩ := R0.out.cells
            have y0 := R0.out.froz 0
            have y1 := R0.out.froz 1
            have y2 := R0.out.froz 2
            have y3 := R0.out.froz 3
            have y4 := R0.out.froz 4
            have y5 := R0.out.froz 5
            obtain ⟨q0, q1, q2, q3, q4, q5⟩ := bx5.cells
            have OWN5 := hid own5
            clear own5 bx5
            go_wp2_with fail
            clear z0 z1 z2 z3 z4 z5 y0 y1 y2 y3 y4 y5
            have ne5 := OWN5.out.ne R0.out (by decide)
            have o9 := ((((((OWN5.out.set (j := 0) (u := .int .i64 (LS : Int)) ne5).set (j := 1) (u := .int .i64 (KD : Int)) ne5).set (j := 2) (u := .int .i64 (LV : Int)) ne5).set (j := 3) (u := .int .i64 (RT : Int)) ne5).set (j := 4) (u := .string (M.bs (List.take HG (List.drop 13 S)))) ne5).set (j := 5) (u := .slice ao acc.length cp) ne5).vals
            have q := R0.out.six (.int .i64 (LS : Int)) (.int .i64 (KD : Int)) (.int .i64 (LV : Int)) (.int .i64 (RT : Int)) (.string (M.bs (List.take HG (List.drop 13 S)))) (.slice ao acc.length cp)
            have b7 := BW.out.six (Nat.le_refl _) (.int .i64 (LS : Int)) (.int .i64 (KD : Int)) (.int .i64 (LV : Int)) (.int .i64 (RT : Int)) (.string (M.bs (List.take HG (List.drop 13 S)))) (.slice ao acc.length cp)
            rw [six] at q b7
            generalize World.setCell _ ⟨w.heap.size, 5, none⟩ (.slice ao acc.length cp) = W9 at *
            obtain ⟨z0, z1, z2, z3, z4, z5⟩ := q.cells
            refine bodyPost_ret (v := .tuple #[.agg #[.int .i64 (LS : Int), .int .i64 (KD : Int), .int .i64 (LV : Int), .int .i64 (RT : Int), .string (M.bs (List.take HG (List.drop 13 S))), .slice ao acc.length cp], .int .i64 0]) (by simp [results, Tryd.results23, go_sem, z0, z1, z2, z3, z4, z5]) rfl ?_
            rw [HR.out, HP.out, HPG1.out]
            exact ⟨_, rfl, o9, b7⟩
      by_cases hc1 : 502 < at' + 3
      case pos =>
        have HR : Hid (M.rback l (M.rpage l) = (M.zeroP, 2)) := by
          show _ = _
          have h1 := HRL.out
          rw [show NN - k = (NN - (k + 1)) + 1 by omega, M.rl, if_pos (Or.inl hc1)] at h1
          rw [HRP.out, if_neg hg, ← h1]; rfl
        have i3 : IntKind.i64.wrap ((at' : Int) + 3) = (at' : Int) + 3 := by rw [IntKind.wrap_i64]; omega
        have d1 : decide ((502 : Int) < (at' : Int) + 3) = true := decide_eq_true (by omega)
        go_wp2_with fail
        go_quiet (fail)
        have b4 : Bel wr (wr.drewN nq) := below_drewN (Below.refl _ _) _
        generalize wr.drewN nq = W4 at b4 ⊢
        have b9 := hb.tr b4
        have R0 := hid (r2.out.bel b9)
        have BW := hid (bb2.out.tr b9)
        obtain ⟨z0, z1, z2, z3, z4, z5⟩ := R0.out.cells
        have y0 := R0.out.froz 0
        have y1 := R0.out.froz 1
        have y2 := R0.out.froz 2
        have y3 := R0.out.froz 3
        have y4 := R0.out.froz 4
        have y5 := R0.out.froz 5
        go_wp2_with fail
        clear z0 z1 z2 z3 z4 z5 y0 y1 y2 y3 y4 y5
        have q := R0.out.six (.int .i64 0) (.int .i64 0) (.int .i64 0) (.int .i64 0) (.string ⟨#[]⟩) (.slice none 0 0)
        have b7 := BW.out.six (Nat.le_refl _) (.int .i64 0) (.int .i64 0) (.int .i64 0) (.int .i64 0) (.string ⟨#[]⟩) (.slice none 0 0)
        rw [six] at q b7
        generalize World.setCell _ ⟨w.heap.size, 5, none⟩ (.slice none 0 0) = W9 at *
        obtain ⟨z0, z1, z2, z3, z4, z5⟩ := q.cells
        refine bodyPost_ret (v := .tuple #[pv M.zeroP (.slice none 0 0), .int .i64 2]) (by simp [results, Tryd.results23, go_sem, pv, M.zeroP, z0, z1, z2, z3, z4, z5]; rfl) rfl ?_
        rw [HR.out]
        exact ⟨_, rfl, ⟨none, 0, rfl, .inl rfl⟩, b7⟩
      obtain ⟨n1, e1⟩ : ∃ n1 : Nat, n1 = at' + 1 := ⟨_, rfl⟩
      obtain ⟨n2, e2⟩ : ∃ n2 : Nat, n2 = at' + 2 := ⟨_, rfl⟩
      obtain ⟨n3, e3⟩ : ∃ n3 : Nat, n3 = at' + 3 := ⟨_, rfl⟩
      have i1 : (at' : Int) + 1 = (n1 : Int) := by omega
      have i2 : (at' : Int) + 2 = (n2 : Int) := by omega
      have i3 : (at' : Int) + 3 = (n3 : Int) := by omega
      have l1 : n1 < (M.bs l).size := by omega
      have l2 : n2 < (M.bs l).size := by omega
      have hb1 := bs_at l n1 (by omega)
      have hb2 := bs_at l n2 (by omega)
      have hk1 := M.byteAt_lt l n1
      have hk2 := M.byteAt_lt l n2
      generalize hKL : M.byteAt l n1 = KL at *
      generalize hVL : M.byteAt l n2 = VL at *
      have HKL := hid hKL
      have HVL := hid hVL
      clear hKL hVL
      have wr1 : IntKind.i64.wrap ((at' : Int) + 1) = (n1 : Int) := by rw [i1, IntKind.wrap_i64]; omega
      have wr2 : IntKind.i64.wrap ((at' : Int) + 2) = (n2 : Int) := by rw [i2, IntKind.wrap_i64]; omega
      have wr3 : IntKind.i64.wrap ((at' : Int) + 3) = (n3 : Int) := by rw [i3, IntKind.wrap_i64]; omega
      have wk : IntKind.i64.wrap (KL : Int) = (KL : Int) := by rw [IntKind.wrap_i64]; omega
      have wv : IntKind.i64.wrap (VL : Int) = (VL : Int) := by rw [IntKind.wrap_i64]; omega
      obtain ⟨m1, e4⟩ : ∃ m1 : Nat, m1 = n3 + KL := ⟨_, rfl⟩
      obtain ⟨m2, e5⟩ : ∃ m2 : Nat, m2 = m1 + VL := ⟨_, rfl⟩
      have i4 : (n3 : Int) + (KL : Int) = (m1 : Int) := by omega
      have i5 : (m1 : Int) + (VL : Int) = (m2 : Int) := by omega
      have wr4 : IntKind.i64.wrap ((n3 : Int) + (KL : Int)) = (m1 : Int) := by rw [i4, IntKind.wrap_i64]; omega
      have wr5 : IntKind.i64.wrap ((m1 : Int) + (VL : Int)) = (m2 : Int) := by rw [i5, IntKind.wrap_i64]; omega
      have d1 : decide ((502 : Int) < (n3 : Int)) = false := decide_eq_false (by omega)
      by_cases hc2 : 502 < m2
      case pos =>
        have HR : Hid (M.rback l (M.rpage l) = (M.zeroP, 2)) := by
          show _ = _
          have h1 := HRL.out
          rw [show NN - k = (NN - (k + 1)) + 1 by omega, M.rl, if_pos (Or.inr (by rw [← e1, ← e2, HKL.out, HVL.out]; omega))] at h1
          rw [HRP.out, if_neg hg, ← h1]; rfl
        have d2 : decide ((502 : Int) < (m2 : Int)) = true := decide_eq_true (by omega)
        have E3 := hid e3
        have E2 := hid e2
        have E1 := hid e1
        clear e1 e2 e3 e4 e5
        go_wp2_with fail
        go_quiet (fail)
        have b4 : Bel wr (wr.drewN nq) := below_drewN (Below.refl _ _) _
        generalize wr.drewN nq = W4 at b4 ⊢
        have b9 := hb.tr b4
        have R0 := hid (r2.out.bel b9)
        have BW := hid (bb2.out.tr b9)
        obtain ⟨z0, z1, z2, z3, z4, z5⟩ := R0.out.cells
        have y0 := R0.out.froz 0
        have y1 := R0.out.froz 1
        have y2 := R0.out.froz 2
        have y3 := R0.out.froz 3
        have y4 := R0.out.froz 4
        have y5 := R0.out.froz 5
        go_wp2_with fail
        clear z0 z1 z2 z3 z4 z5 y0 y1 y2 y3 y4 y5
        have q := R0.out.six (.int .i64 0) (.int .i64 0) (.int .i64 0) (.int .i64 0) (.string ⟨#[]⟩) (.slice none 0 0)
        have b7 := BW.out.six (Nat.le_refl _) (.int .i64 0) (.int .i64 0) (.int .i64 0) (.int .i64 0) (.string ⟨#[]⟩) (.slice none 0 0)
        rw [six] at q b7
        generalize World.setCell _ ⟨w.heap.size, 5, none⟩ (.slice none 0 0) = W9 at *
        obtain ⟨z0, z1, z2, z3, z4, z5⟩ := q.cells
        refine bodyPost_ret (v := .tuple #[pv M.zeroP (.slice none 0 0), .int .i64 2]) (by simp [results, Tryd.results23, go_sem, pv, M.zeroP, z0, z1, z2, z3, z4, z5]; rfl) rfl ?_
        rw [HR.out]
        exact ⟨_, rfl, ⟨none, 0, rfl, .inl rfl⟩, b7⟩
      have d2 : decide ((502 : Int) < (m2 : Int)) = false := decide_eq_false (by omega)
      have l0 : at' < (M.bs l).size := by omega
      have hb0' := bs_at l at' (by omega)
      have hk0 := M.byteAt_lt l at'
      generalize hMK : M.byteAt l at' = MK at *
      have HMK := hid hMK
      clear hMK
      have s1 : (0 : Int) ≤ (n3 : Int) := by omega
      have s2 : (n3 : Int) ≤ (m1 : Int) := by omega
      have s3 : (m1 : Int) ≤ 512 := by omega
      have s4 : (0 : Int) ≤ (m1 : Int) := by omega
      have s5 : (m1 : Int) ≤ (m2 : Int) := by omega
      have s6 : (m2 : Int) ≤ 512 := by omega
      have hx1 : (M.bs l).extract n3 m1 = M.bs ((l.drop n3).take KL) := by rw [M.extract_bs, M.bs_data, show m1 - n3 = KL by omega]
      have hx2 : (M.bs l).extract m1 m2 = M.bs ((l.drop m1).take VL) := by rw [M.extract_bs, M.bs_data, show m2 - m1 = VL by omega]
      have hlk : ((l.drop n3).take KL).length ≤ 255 := by rw [List.length_take]; omega
      have hlv : ((l.drop m1).take VL).length ≤ 255 := by rw [List.length_take]; omega
      have E5 := hid (show m2 = at' + 3 + KL + VL by omega)
      have E4 := hid (show m1 = at' + 3 + KL by omega)
      have E3 := hid e3
      have E2 := hid e2
      have E1 := hid e1
      clear e1 e2 e3 e4 e5
      generalize hKY : (l.drop n3).take KL = KY at *
      generalize hVY : (l.drop m1).take VL = VY at *
      have HKY := hid hKY
      have HVY := hid hVY
      clear hKY hVY
      obtain ⟨mk, hmk⟩ : ∃ mk : Bool, ((MK : Int) == 1) = mk := ⟨_, rfl⟩
      go_wp2_with fail
      go_quiet (fail)
      have b4 : Bel wr (wr.drewN nq) := below_drewN (Below.refl _ _) _
      generalize wr.drewN nq = W4 at b4 ⊢
      go_wp2_with fail
      go_quiet (fail)
      have b5 : Bel W4 (W4.drewN nq) := below_drewN (Below.refl _ _) _
      generalize W4.drewN nq = W5 at b5 ⊢
      have b6 : Bel W5 W5.drew := Bel.dr (Below.refl _ _)
      have wn3 : IntKind.i64.wrap (n3 : Int) = (n3 : Int) := by rw [IntKind.wrap_i64]; omega
      have wm1 : IntKind.i64.wrap (m1 : Int) = (m1 : Int) := by rw [IntKind.wrap_i64]; omega
      have wm2 : IntKind.i64.wrap (m2 : Int) = (m2 : Int) := by rw [IntKind.wrap_i64]; omega
      have hl0 : ¬ ((512 : Int) ≤ (at' : Int)) := by omega
      have bx6 := hid (((bx.bel b4).bel b5).bel b6)
      have own6 := hid (((OWN.out.bel b4).bel b5).bel b6)
      have HB6 := hid (((hb.tr b4).tr b5).tr b6)
      go_wp2_with fail
      refine wp_normal ?_
      refine region_until (S := fun W : World => W.cell? ⟨w2.heap.size, 5, none⟩ = some (.slice ao acc.length cp)) (m := 30) (by kernel_rfl) ?_
      have hS : W5.drew.cell? ⟨w2.heap.size, 5, none⟩ = some (.slice ao acc.length cp) := bx6.out.cells.2.2.2.2.2
      generalize W5.drew = W6 at b6 bx6 own6 HB6 hS ⊢
      refine take_next (i := 0) (.pointer (some ⟨w2.heap.size, 5, none⟩)) [1, 28, 30] (by kernel_rfl) (by kernel_rfl) rfl (by kernel_rfl) (by kernel_rfl) (by kernel_rfl) (by kernel_rfl) (fun _ _ _ h => absurd h.1 (by simp)) (Or.inl ⟨by rfl, fun w' hSw => by go_simp⟩) hS ?_
      simp only [Act.put]
      refine take_next (i := 1) (.slice ao acc.length cp) [28, 30] (by kernel_rfl) (by kernel_rfl) rfl (by kernel_rfl) (by kernel_rfl) (by kernel_rfl) (by kernel_rfl) (fun _ _ _ h => absurd h.1 (by simp)) (Or.inl ⟨by rfl, fun w' hSw => by go_simp⟩) hS ?_
      simp only [Act.put]
      refine take_next (i := 2) (.string (M.bs l)) [9, 26, 27, 28, 30] (by kernel_rfl) (by kernel_rfl) rfl (by kernel_rfl) (by kernel_rfl) (by kernel_rfl) (by kernel_rfl) (fun _ _ _ h => absurd h.1 (by simp)) (Or.inl ⟨by rfl, fun w' hSw => by go_simp⟩) hS ?_
      simp only [Act.put]
      refine take_next (i := 3) (.int .i64 (at' : Int)) [4, 9, 26, 27, 28, 30] (by kernel_rfl) (by kernel_rfl) rfl (by kernel_rfl) (by kernel_rfl) (by kernel_rfl) (by kernel_rfl) (fun _ _ _ h => absurd h.1 (by simp)) (Or.inl ⟨by rfl, fun w' hSw => by go_simp⟩) hS ?_
      simp only [Act.put]
      refine take_next (i := 4) (.int .i64 (n3 : Int)) [9, 26, 27, 28, 30] (by kernel_rfl) (by kernel_rfl) rfl (by kernel_rfl) (by kernel_rfl) (by kernel_rfl) (by kernel_rfl) (fun _ _ _ h => absurd h.1 (by simp)) (Or.inl ⟨by rfl, fun w' hSw => by go_simp⟩) hS ?_
      simp only [Act.put]
      refine take_next (i := 5) (.int .i64 (at' : Int)) [6, 8, 9, 26, 27, 28, 30] (by kernel_rfl) (by kernel_rfl) rfl (by kernel_rfl) (by kernel_rfl) (by kernel_rfl) (by kernel_rfl) (fun _ _ _ h => absurd h.1 (by simp)) (Or.inl ⟨by rfl, fun w' hSw => by go_simp⟩) hS ?_
      simp only [Act.put]
      refine take_next (i := 6) (.int .i64 (n3 : Int)) [8, 9, 26, 27, 28, 30] (by kernel_rfl) (by kernel_rfl) rfl (by kernel_rfl) (by kernel_rfl) (by kernel_rfl) (by kernel_rfl) (fun _ _ _ h => absurd h.1 (by simp)) (Or.inl ⟨by rfl, fun w' hSw => by go_simp⟩) hS ?_
      simp only [Act.put]
      refine take_next (i := 7) (.int .i64 (KL : Int)) [8, 9, 26, 27, 28, 30] (by kernel_rfl) (by kernel_rfl) rfl (by kernel_rfl) (by kernel_rfl) (by kernel_rfl) (by kernel_rfl) (fun _ _ _ h => absurd h.1 (by simp)) (Or.inl ⟨by rfl, fun w' hSw => by go_simp⟩) hS ?_
      simp only [Act.put]
      refine take_next (i := 8) (.int .i64 (m1 : Int)) [9, 26, 27, 28, 30] (by kernel_rfl) (by kernel_rfl) rfl (by kernel_rfl) (by kernel_rfl) (by kernel_rfl) (by kernel_rfl) (fun _ _ _ h => absurd h.1 (by simp)) (Or.inl ⟨by rfl, fun w' hSw => by go_simp⟩) hS ?_
      simp only [Act.put]
      refine take_next (i := 9) (.string (M.bs KY)) [26, 27, 28, 30] (by kernel_rfl) (by kernel_rfl) rfl (by kernel_rfl) (by kernel_rfl) (by kernel_rfl) (by kernel_rfl) (fun _ _ _ h => absurd h.1 (by simp)) (Or.inl ⟨by rfl, fun w' hSw => by go_simp⟩) hS ?_
      simp only [Act.put]
      refine take_next (i := 10) (.string (M.bs l)) [21, 26, 27, 28, 30] (by kernel_rfl) (by kernel_rfl) rfl (by kernel_rfl) (by kernel_rfl) (by kernel_rfl) (by kernel_rfl) (fun _ _ _ h => absurd h.1 (by simp)) (Or.inl ⟨by rfl, fun w' hSw => by go_simp⟩) hS ?_
      simp only [Act.put]
      refine take_next (i := 11) (.int .i64 (at' : Int)) [12, 14, 21, 26, 27, 28, 30] (by kernel_rfl) (by kernel_rfl) rfl (by kernel_rfl) (by kernel_rfl) (by kernel_rfl) (by kernel_rfl) (fun _ _ _ h => absurd h.1 (by simp)) (Or.inl ⟨by rfl, fun w' hSw => by go_simp⟩) hS ?_
      simp only [Act.put]
      refine take_next (i := 12) (.int .i64 (n3 : Int)) [14, 21, 26, 27, 28, 30] (by kernel_rfl) (by kernel_rfl) rfl (by kernel_rfl) (by kernel_rfl) (by kernel_rfl) (by kernel_rfl) (fun _ _ _ h => absurd h.1 (by simp)) (Or.inl ⟨by rfl, fun w' hSw => by go_simp⟩) hS ?_
      simp only [Act.put]
      refine take_next (i := 13) (.int .i64 (KL : Int)) [14, 21, 26, 27, 28, 30] (by kernel_rfl) (by kernel_rfl) rfl (by kernel_rfl) (by kernel_rfl) (by kernel_rfl) (by kernel_rfl) (fun _ _ _ h => absurd h.1 (by simp)) (Or.inl ⟨by rfl, fun w' hSw => by go_simp⟩) hS ?_
      simp only [Act.put]
      refine take_next (i := 14) (.int .i64 (m1 : Int)) [21, 26, 27, 28, 30] (by kernel_rfl) (by kernel_rfl) rfl (by kernel_rfl) (by kernel_rfl) (by kernel_rfl) (by kernel_rfl) (fun _ _ _ h => absurd h.1 (by simp)) (Or.inl ⟨by rfl, fun w' hSw => by go_simp⟩) hS ?_
      simp only [Act.put]
      refine take_next (i := 15) (.int .i64 (at' : Int)) [16, 18, 20, 21, 26, 27, 28, 30] (by kernel_rfl) (by kernel_rfl) rfl (by kernel_rfl) (by kernel_rfl) (by kernel_rfl) (by kernel_rfl) (fun _ _ _ h => absurd h.1 (by simp)) (Or.inl ⟨by rfl, fun w' hSw => by go_simp⟩) hS ?_
      simp only [Act.put]
      refine take_next (i := 16) (.int .i64 (n3 : Int)) [18, 20, 21, 26, 27, 28, 30] (by kernel_rfl) (by kernel_rfl) rfl (by kernel_rfl) (by kernel_rfl) (by kernel_rfl) (by kernel_rfl) (fun _ _ _ h => absurd h.1 (by simp)) (Or.inl ⟨by rfl, fun w' hSw => by go_simp⟩) hS ?_
      simp only [Act.put]
      refine take_next (i := 17) (.int .i64 (KL : Int)) [18, 20, 21, 26, 27, 28, 30] (by kernel_rfl) (by kernel_rfl) rfl (by kernel_rfl) (by kernel_rfl) (by kernel_rfl) (by kernel_rfl) (fun _ _ _ h => absurd h.1 (by simp)) (Or.inl ⟨by rfl, fun w' hSw => by go_simp⟩) hS ?_
      simp only [Act.put]
      refine take_next (i := 18) (.int .i64 (m1 : Int)) [20, 21, 26, 27, 28, 30] (by kernel_rfl) (by kernel_rfl) rfl (by kernel_rfl) (by kernel_rfl) (by kernel_rfl) (by kernel_rfl) (fun _ _ _ h => absurd h.1 (by simp)) (Or.inl ⟨by rfl, fun w' hSw => by go_simp⟩) hS ?_
      simp only [Act.put]
      refine take_next (i := 19) (.int .i64 (VL : Int)) [20, 21, 26, 27, 28, 30] (by kernel_rfl) (by kernel_rfl) rfl (by kernel_rfl) (by kernel_rfl) (by kernel_rfl) (by kernel_rfl) (fun _ _ _ h => absurd h.1 (by simp)) (Or.inl ⟨by rfl, fun w' hSw => by go_simp⟩) hS ?_
      simp only [Act.put]
      refine take_next (i := 20) (.int .i64 (m2 : Int)) [21, 26, 27, 28, 30] (by kernel_rfl) (by kernel_rfl) rfl (by kernel_rfl) (by kernel_rfl) (by kernel_rfl) (by kernel_rfl) (fun _ _ _ h => absurd h.1 (by simp)) (Or.inl ⟨by rfl, fun w' hSw => by go_simp⟩) hS ?_
      simp only [Act.put]
      refine take_next (i := 21) (.string (M.bs VY)) [26, 27, 28, 30] (by kernel_rfl) (by kernel_rfl) rfl (by kernel_rfl) (by kernel_rfl) (by kernel_rfl) (by kernel_rfl) (fun _ _ _ h => absurd h.1 (by simp)) (Or.inl ⟨by rfl, fun w' hSw => by go_simp⟩) hS ?_
      simp only [Act.put]
      refine take_next (i := 22) (.string (M.bs l)) [24, 25, 26, 27, 28, 30] (by kernel_rfl) (by kernel_rfl) rfl (by kernel_rfl) (by kernel_rfl) (by kernel_rfl) (by kernel_rfl) (fun _ _ _ h => absurd h.1 (by simp)) (Or.inl ⟨by rfl, fun w' hSw => by go_simp⟩) hS ?_
      simp only [Act.put]
      refine take_next (i := 23) (.int .i64 (at' : Int)) [24, 25, 26, 27, 28, 30] (by kernel_rfl) (by kernel_rfl) rfl (by kernel_rfl) (by kernel_rfl) (by kernel_rfl) (by kernel_rfl) (fun _ _ _ h => absurd h.1 (by simp)) (Or.inl ⟨by rfl, fun w' hSw => by go_simp⟩) hS ?_
      simp only [Act.put]
      refine take_next (i := 24) (.int .u8 (MK : Int)) [25, 26, 27, 28, 30] (by kernel_rfl) (by kernel_rfl) rfl (by kernel_rfl) (by kernel_rfl) (by kernel_rfl) (by kernel_rfl) (fun _ _ _ h => absurd h.1 (by simp)) (Or.inl ⟨by rfl, fun w' hSw => by go_simp⟩) hS ?_
      simp only [Act.put]
      refine take_next (i := 25) (.bool mk) [26, 27, 28, 30] (by kernel_rfl) (by kernel_rfl) rfl (by kernel_rfl) (by kernel_rfl) (by kernel_rfl) (by kernel_rfl) (fun _ _ _ h => absurd h.1 (by simp)) (Or.inl ⟨by rfl, fun w' hSw => by go_simp⟩) hS ?_
      simp only [Act.put]
      refine take_next (i := 26) (.agg #[.string (M.bs KY), .string (M.bs VY), .bool mk]) [27, 28, 30] (by kernel_rfl) (by kernel_rfl) rfl (by kernel_rfl) (by kernel_rfl) (by kernel_rfl) (by kernel_rfl) (fun _ _ _ h => absurd h.1 (by simp)) (Or.inl ⟨by rfl, fun w' hSw => by go_simp⟩) hS ?_
      simp only [Act.put]
      refine until_ready (rs := [27]) (by kernel_rfl) (by simp) ?_
      intro jj hjj
      simp only [List.mem_cons, List.not_mem_nil, or_false] at hjj
      subst hjj
      refine wpOp_step rfl (fun KX hKX => ?_)
      have HX := hid hKX
      clear hKX
      go_simp
      refine HX.out _ _ ⟨fun _ => (bx6.out.bel (Bel.al (Below.refl _ _) _)).cells.2.2.2.2.2, ?_⟩
      clear HX
      have own7 := own6.out.al (.cells #[.string (M.bs KY), .string (M.bs VY), .bool mk] 88)
      have bx7 := bx6.out.bel (Bel.al (Below.refl _ _) (.cells #[.string (M.bs KY), .string (M.bs VY), .bool mk] 88))
      have bb7 := HB6.out.tr (Bel.al (Below.refl _ _) (.cells #[.string (M.bs KY), .string (M.bs VY), .bool mk] 88))
      have c7 : Cells3 (W6.alloc (.cells #[.string (M.bs KY), .string (M.bs VY), .bool mk] 88)) W6.heap.size (KY, VY, mk) := cells3_of (heap_alloc_new W6 _)
      generalize (W6.alloc (.cells #[.string (M.bs KY), .string (M.bs VY), .bool mk] 88)) = W7 at own7 bx7 bb7 c7 ⊢
      refine until_ready (rs := [28]) (by kernel_rfl) (by simp) ?_
      intro jj hjj
      simp only [List.mem_cons, List.not_mem_nil, or_false] at hjj
      subst hjj
      refine wpOp_step rfl (fun KX hKX => ?_)
      have HX := hid hKX
      clear hKX
      refine appS88 rfl (.tmp 101) (.tmp 127) (by rfl) w2.heap.size (.slice ao acc.length cp) acc (by simp [Act.eval]) own7 (KY, VY, mk) W6.heap.size (by simp [Act.eval]) c7 (by have := HAC.out; omega) bb7.size ?_
      intro v8 W8 own8 g8
      have bx8 := bx7.grown g8 (own7.ne bx7 (by decide))
      have bb8 : Bel w2 W8 := below_grown bb7 own7 g8
      refine HX.out _ _ ⟨fun _ => bx8.cells.2.2.2.2.2, ?_⟩
      clear HX
      simp only [Act.put]
      have ne8 := own8.ne bx8 (by decide)
      obtain ⟨a8, cp8, hv8, _⟩ := own8.vals
      have hla : (acc ++ [(KY, VY, mk)]).length = acc.length + 1 := by rw [List.length_append]; rfl
      rw [hla] at hv8
      subst hv8
      have f5 := bx8.froz 5
      have c5 := bx8.cells.2.2.2.2.2
      refine until_ready (rs := [29]) (by kernel_rfl) (by simp) ?_
      intro jj hjj
      simp only [List.mem_cons, List.not_mem_nil, or_false] at hjj
      subst hjj
      refine wpOp_step rfl (fun KX hKX => ?_)
      have HX := hid hKX
      clear hKX
      go_simp
      refine HX.out _ _ ⟨fun _ => bx8.cells.2.2.2.2.2, ?_⟩
      clear HX
      refine until_ready (rs := [30]) (by kernel_rfl) (by simp) ?_
      intro jj hjj
      simp only [List.mem_cons, List.not_mem_nil, or_false] at hjj
      subst hjj
      refine wpOp_step rfl (fun KX hKX => ?_)
      have HX := hid hKX
      clear hKX
      go_simp
      refine HX.out _ _ ⟨fun h => absurd h (by simp), ?_⟩
      clear HX
      refine until_done (by kernel_rfl) ⟨rfl, ?_⟩ _
      have bx9 := bx8.five (.slice a8 (acc.length + 1) cp8)
      have own9 := own8.set (j := 5) (u := .slice a8 (acc.length + 1) cp8) ne8
      have bb9 : Bel w2 (W8.setCell ⟨w2.heap.size, 5, none⟩ (.slice a8 (acc.length + 1) cp8)) := Below.setCell bb8 (by simp) _
      generalize W8.setCell ⟨w2.heap.size, 5, none⟩ (.slice a8 (acc.length + 1) cp8) = W9 at *
      go_wp2_with fail
      go_roundw
      case rel =>
        refine ⟨k + 1, m2, acc ++ [(KY, VY, mk)], a8, cp8, by omega, by go_num, by go_num, by omega, by rw [List.length_append, HAC.out]; rfl, ?_, by have := E5.out; omega, ?_, by rw [hla]; exact own9, by rw [hla]; exact bx9, bb9⟩
        · intro e he
          rcases List.mem_append.1 he with he | he
          · exact HSZ.out e he
          · simp only [List.mem_singleton] at he; subst he; exact ⟨hlk, hlv⟩
        · rw [← HRL.out]
          conv => rhs; rw [show NN - k = (NN - (k + 1)) + 1 by omega, M.rl]
          rw [← E1.out, ← E2.out, HKL.out, HVL.out, HMK.out, if_neg (by have := E5.out; omega), ← E3.out, show n3 + KL = m1 by have := E4.out; have := E3.out; omega, show m1 + VL = m2 by have := E5.out; have := E4.out; omega, HKY.out, HVY.out]
          rw [dec_one, hmk]
      case measure => simp [intOf]; omega
end Go.Proofs.YtaepbmcmggnmpaaDoor
