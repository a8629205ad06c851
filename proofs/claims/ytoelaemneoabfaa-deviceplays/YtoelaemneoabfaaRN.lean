/-
  The reference of layer 3: Write, walked.
-/
import Derived.Test.YtoelaemneoabfaaRM
namespace Go.Proofs.Ytoelaemneoabfaa
open Go.RowKit

theorem info28s : (Try.prog.info? 28).map (·.size) = some 1 := by kernel_rfl
theorem info29s : (Try.prog.info? 29).map (·.size) = some 1 := by kernel_rfl
/-- A one-cell value, stored into a cell of whatever block, at a plain region's list. -/
theorem store1 {ops : Array Oper} {rest : List Oper} {op : Oper} {a : Go.Act} {w : World} {Q : Exit → Go.Act → World → Prop} (hgd : op.guard = none) (ty : TypeId) (x y : Operand) (ho : op.op = .store ty x y)
    (b o : Nat) (v : Value) (hx : a.eval x = .pointer (some ⟨b, o, none⟩)) (hy : a.eval y = v) (u : Value) (hc : w.cell? ⟨b, o, none⟩ = some u) (hf : w.frozen? ⟨b, o, none⟩ = false)
    (hi : (Try.prog.info? ty).map (·.size) = some 1) (h1 : v.oneCell' = true) (W : World) (hW : w.setCell ⟨b, o, none⟩ v = W)
    (h : wpList Try.prog ops Q rest (a.put op.dst undef) W) : wpList Try.prog ops Q (op :: rest) a w :=
  wpList_plain hgd fun _ hK => by
    subst hW
    have h1' : ∀ j, j < [v].length → (w.cell? ⟨b, o + 0 + j, none⟩).isSome = true := fun j hj => by
      obtain rfl : j = 0 := by simpa using hj
      simp [hc]
    have h2' : ∀ j, j < [v].length → w.frozen? ⟨b, o + 0 + j, none⟩ = false := fun j hj => by
      obtain rfl : j = 0 := by simpa using hj
      simpa using hf
    have := run_storeCells_cells (P := Try.prog) b o [v] 0 w h1' h2'
      (fun x hx => by simp at hx; subst hx; exact h1)
    have hcs : v.cells = #[v] := by cases v <;> first | rfl | cases h1
    have hs : (storeVar ty ⟨b, o, none⟩ v).run Try.prog w = .ok () (w.setCell ⟨b, o, none⟩ v) := by
      cases hq : Try.prog.info? ty with
      | none => simp [hq] at hi
      | some i =>
        have hs : i.size = 1 := by simpa [hq] using hi
        simp only [Nat.add_zero] at this
        simpa [storeVar, sizeOf, typeInfo, hq, hcs, hs, World.setCells] using this
    unfold Oper.wp execOp
    simp only [ho, hx, hy, Instr.storeAt, Instr.sureAddr, Sem.run_bind, Sem.run_pure, Result.andThen_ok, hs]
    exact hK _ _ h

set_option maxHeartbeats 8000000 in
theorem rWrite_any (Y : Nat → Prop) (b : Nat) (R : Rf) (N : Nat) (i : Int) (t : M.Tx) (w : World) (h : Ref Y w b R) (g : GoodR N R) (hN : N + 1 ≤ 1000) (hy : ∀ j, Y j → j < w.heap.size) :
    Calls Try.prog 35 #[.pointer (some ⟨b, 0, none⟩), .int .i64 i, .string (M.bs t)] w fun e w' => e = .returned (.int .i64 (rWriteE R i t)) ∧ Ref (fun j => Y j ∨ (w.heap.size ≤ j ∧ j < w'.heap.size)) w' b (rWrite R i t) ∧ Keep (fun j => j ≠ b ∧ j < w.heap.size) w w' := by
  have H := hid h
  obtain ⟨la, lcap, c0⟩ : ∃ la lcap, w.cell? ⟨b, 0, none⟩ = some (.slice la R.last.length lcap) := by
    obtain ⟨lv, av, dv, kv, h⟩ := h
    obtain ⟨la, lcap, rfl, _⟩ := id h.last
    exact ⟨la, lcap, by rw [h.blk.cell]; rfl⟩
  have c3 : w.cell? ⟨b, 3, none⟩ = some (.bool R.off) := by
    obtain ⟨lv, av, dv, kv, h⟩ := h
    rw [h.blk.cell]; rfl
  have hbs := M.bs_size t
  cases ho : R.off with
  | true =>
    have HB : Hid (rWrite R i t = R ∧ rWriteE R i t = 7) := ⟨by simp [rWrite, rCheck, ho], by simp [rWriteE, rCheck, ho]⟩
    rw [ho] at c3
    clear h
    go_enter Try.func35, Try.ntmps35
    go_wp2_with fail
    go_ret
    exact ⟨by rw [HB.out.2]; rfl, by rw [HB.out.1]; exact H.out.weak fun _ h => .inl h, Keep.refl _ _⟩
  | false =>
    rw [ho] at c3
    by_cases hi : i < 0 ∨ (R.last.length : Int) ≤ i
    · have HB : Hid (rWrite R i t = R ∧ rWriteE R i t = 1) := ⟨by simp [rWrite, rCheck, ho, hi], by simp [rWriteE, rCheck, ho, hi]⟩
      clear h
      by_cases h1 : i < 0
      · go_enter Try.func35, Try.ntmps35
        go_wp2_with fail
        go_ret
        exact ⟨by rw [HB.out.2]; rfl, by rw [HB.out.1]; exact H.out.weak fun _ h => .inl h, Keep.refl _ _⟩
      · have q1 : decide (i < 0) = false := by simpa using h1
        have h2 : (R.last.length : Int) ≤ i := by omega
        go_enter Try.func35, Try.ntmps35
        go_wp2_with fail
        go_ret
        exact ⟨by rw [HB.out.2]; rfl, by rw [HB.out.1]; exact H.out.weak fun _ h => .inl h, Keep.refl _ _⟩
    · have hc0 : rCheck R i = 0 := by simp [rCheck, ho, hi]
      have q1 : decide (i < 0) = false := decide_eq_false (by omega)
      have q2 : decide ((R.last.length : Int) ≤ i) = false := decide_eq_false (by omega)
      have q1' : ¬ i < 0 := by omega
      have q2' : ¬ (R.last.length : Int) ≤ i := by omega
      by_cases ht : 256 < t.length
      · have HB : Hid (rWrite R i t = R ∧ rWriteE R i t = 6) := ⟨by simp [rWrite, hc0, ht], by simp [rWriteE, hc0, ht]⟩
        have q3 : (256 : Int) < (t.length : Int) := by omega
        clear h
        go_enter Try.func35, Try.ntmps35
        go_wp2_with fail
        go_ret
        exact ⟨by rw [HB.out.2]; rfl, by rw [HB.out.1]; exact H.out.weak fun _ h => .inl h, Keep.refl _ _⟩
      · have q3 : decide ((256 : Int) < (t.length : Int)) = false := decide_eq_false (by omega)
        have q3' : ¬ (256 : Int) < (t.length : Int) := by omega
        have hs := rStep_any Y b R N w h g hN
        have gS := g.step hN
        clear h H
        by_cases hf : R.fuse = 1
        · have HB : Hid (rWrite R i t = rStep R ∧ rWriteE R i t = 7) := ⟨by simp [rWrite, hc0, hf, ht], by simp [rWriteE, hc0, hf, ht]⟩
          have hq : (R.fuse != 1) = false := by simp [hf]
          rw [hq] at hs
          clear hf ho hi
          go_enter Try.func35, Try.ntmps35
          go_wp2_with (go_at_call 39; refine hs.mono ?_; rintro e w1 ⟨rfl, h1, h2⟩)
          have hX := hid h1
          clear h1
          go_ret
          exact ⟨by rw [HB.out.2]; rfl, by rw [HB.out.1]; exact hX.out, h2⟩
        · have hq : (R.fuse != 1) = true := by simpa using hf
          have HB : Hid (rWrite R i t = { rTick R with at' := R.at' ++ [i], data := R.data ++ [pad t] } ∧ rWriteE R i t = 0) := ⟨by simp [rWrite, hc0, hf, ht], by simp [rWriteE, hc0, hf, ht]⟩
          have hst : rStep R = rTick R := by simp [rStep, hf]
          rw [hq, hst] at hs
          have hal : (rTick R).at'.length ≤ 1000 := by show R.at'.length ≤ _; have := g.wait; omega
          have hfull : ∀ w, Calls Try.prog 25 #[.string (M.bs t)] w fun e w' => e = .returned (.string (M.bs (pad t))) ∧ Bel w w' := fun w => full_any t w (by omega)
          clear hf ho hi hst gS
          go_enter Try.func35, Try.ntmps35
          go_wp2_with (first
            | (go_at_call 39
               refine hs.mono ?_
               rintro e w1 ⟨rfl, h1, k1⟩
               obtain ⟨aa, acap, da, dcap, p1, n1, c1, w2, p2, n2, c2, w3, p3, n3, c3', w5, a1, a2, a3, a4, a5, a6, a7, A8⟩ := write_ahead _ b (rTick R) i (pad t) w1 h1 (fun j hj => by
                 rcases hj with hj | hj
                 · exact Nat.lt_of_lt_of_le (hy j hj) k1.size
                 · exact hj.2) hal
               have K1 := hid k1
               obtain ⟨W4, hW⟩ : ∃ W4, w3.setCell ⟨b, 1, none⟩ (.slice p2 n2 c2) = W4 := ⟨_, rfl⟩
               have hz : w3.heap.size = W4.heap.size := by rw [← hW]; simp [World.setCell]
               rw [hW] at a6 a7
               rw [hz] at a7
               have HW := hid hW
               have H4 := hid a4
               have H5 := hid a5
               clear h1 k1 hs a4 a5 hW hz)
            | (at_builtin; refine appL rfl _ _ rfl rfl rfl a2 ?_)
            | (at_builtin; refine appL rfl _ _ rfl rfl rfl a3 ?_)
            | (at_builtin; refine appL rfl _ _ rfl rfl rfl a7 ?_)
            | (refine store1 rfl 29 (.tmp 39) (.tmp 37) rfl b 1 (.slice p2 n2 c2) rfl rfl _ H4.out H5.out info29s rfl W4 HW.out ?_)
            | (go_at_call 25
               refine (hfull _).mono ?_
               rintro e w6 ⟨rfl, k6⟩
               obtain ⟨p4, n4, c4, w7, a9, a10, a11, A12⟩ := A8.out w6 k6
               obtain ⟨W8, hW8⟩ : ∃ W8, w7.setCell ⟨b, 2, none⟩ (.slice p4 n4 c4) = W8 := ⟨_, rfl⟩
               rw [hW8] at A12
               have HW8 := hid hW8
               have H10 := hid a10
               have H11 := hid a11
               clear k6 a10 a11 hW8)
            | (at_builtin; refine appL rfl _ _ rfl rfl rfl a9 ?_)
            | (refine store1 rfl 28 (.tmp 52) (.tmp 50) rfl b 2 (.slice p4 n4 c4) rfl rfl _ H10.out H11.out info28s rfl W8 HW8.out ?_))
          go_ret
          have z1 := K1.out.size
          have z8 := A12.out.2.size
          refine ⟨by rw [HB.out.2]; rfl, ?_, K1.out.tr (A12.out.2.weak fun j hj => ⟨hj.1, by omega⟩)⟩
          rw [HB.out.1]
          refine A12.out.1.weak fun j hj => ?_
          rcases hj with (hj | hj) | hj
          · exact .inl hj
          · exact .inr ⟨hj.1, by omega⟩
          · exact .inr ⟨by omega, hj.2⟩
end Go.Proofs.Ytoelaemneoabfaa
