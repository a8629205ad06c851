/-
  The reference of layer 3: Step, walked.
-/
import Derived.Test.YtoelaemneoabfaaRI
namespace Go.Proofs.Ytoelaemneoabfaa
open Go.RowKit

def rTick (R : Rf) : Rf := { R with fuse := if 0 < R.fuse then R.fuse - 1 else R.fuse, cmds := R.cmds + 1 }
def rStep (R : Rf) : Rf := if R.fuse = 1 then rFail R R.keep else rTick R
/-- The reference's own block turned: its numbers. -/
theorem RefAt.turn {Y : Nat → Prop} {w W : World} {b : Nat} {R R' : Rf} {lv av dv kv : Value} (h : RefAt Y w b R lv av dv kv) (k : Keep (fun j => Y j ∧ j ≠ b) w W)
    (hb : Blk W b #[lv, av, dv, .bool R'.off, .int .i64 R'.fuse, kv, .int .i64 R'.cmds] 31) (hl : R'.last = R.last) (ha : R'.at' = R.at') (hd : R'.data = R.data) (hk : R'.keep = R.keep) : RefAt Y W b R' lv av dv kv :=
  ⟨hb, by rw [hl]; exact h.last.keep k, by rw [ha]; exact h.at'.keep k, by rw [hd]; exact h.data.keep k, by rw [hk]; exact h.keep.keep k, by rw [ha, hd]; exact h.len, h.yb⟩
theorem Ref.weak {Y Z : Nat → Prop} {w : World} {b : Nat} {R : Rf} (h : Ref Y w b R) (hs : ∀ g, Y g → Z g) : Ref Z w b R := by
  obtain ⟨lv, av, dv, kv, h⟩ := h
  have hs' : ∀ g, Y g ∧ g ≠ b → Z g ∧ g ≠ b := fun g hg => ⟨hs g hg.1, hg.2⟩
  exact ⟨lv, av, dv, kv, h.blk, h.last.weak hs', h.at'.weak hs', h.data.weak hs', h.keep.weak hs', h.len, hs b h.yb⟩
theorem GoodR.step {N : Nat} {R : Rf} (g : GoodR N R) (hN : N + 1 ≤ 1000) : GoodR (N + 1) (rStep R) := by
  have h0 := g.fuse0
  have h1 := g.fuse
  have h2 := g.cmds0
  have h3 := g.cmds
  have h4 := g.wait
  unfold rStep
  split
  · have := g.fail R.keep
    exact ⟨hN, this.ne, this.few, this.len, by have := this.wait; omega, this.sec, this.keep, this.fuse0, this.fuse, this.cmds0, by have := this.cmds; omega⟩
  · exact ⟨hN, g.ne, g.few, g.len, by show R.at'.length ≤ _; omega, g.sec, g.keep, by simp only [rTick]; split <;> omega, by simp only [rTick]; split <;> omega, by simp only [rTick]; omega, by simp only [rTick]; omega⟩
set_option maxHeartbeats 4000000 in
theorem rStep_any (Y : Nat → Prop) (b : Nat) (R : Rf) (N : Nat) (w : World) (h : Ref Y w b R) (g : GoodR N R) (hN : N + 1 ≤ 1000) :
    Calls Try.prog 39 #[.pointer (some ⟨b, 0, none⟩)] w fun e w' => e = .returned (.bool (R.fuse != 1)) ∧ Ref (fun j => Y j ∨ (w.heap.size ≤ j ∧ j < w'.heap.size)) w' b (rStep R) ∧ Keep (fun j => j ≠ b ∧ j < w.heap.size) w w' := by
  have H := hid h
  obtain ⟨lv, av, dv, kv, h⟩ := h
  have c4 : w.cell? ⟨b, 4, none⟩ = some (.int .i64 R.fuse) := by rw [h.blk.cell]; rfl
  have c5 : w.cell? ⟨b, 5, none⟩ = some kv := by rw [h.blk.cell]; rfl
  have c6 : w.cell? ⟨b, 6, none⟩ = some (.int .i64 R.cmds) := by rw [h.blk.cell]; rfl
  have f4 := h.blk.frozen 4
  have f6 := h.blk.frozen 6
  by_cases hf : R.fuse = 1
  · have hc := rFail_any Y b R N R.keep kv w H.out g (seesN_reads h.keep) g.keep
    have HB : Hid (rStep R = rFail R R.keep ∧ (R.fuse != 1) = false) := ⟨by simp [rStep, hf], by simp [hf]⟩
    rw [hf] at c4
    clear h
    go_enter Try.func39, Try.ntmps39
    go_wp2_with (go_at_call 34; refine hc.mono ?_; rintro e w1 ⟨rfl, h1, h2⟩)
    have hX := hid h1
    clear h1
    go_ret
    exact ⟨by rw [HB.out.2]; rfl, by rw [HB.out.1]; exact hX.out, h2⟩
  · have HB : Hid (rStep R = rTick R ∧ (R.fuse != 1) = true) := ⟨by simp [rStep, hf], by simpa using hf⟩
    have q1 : (R.fuse == 1) = false := by simpa using hf
    have g0 := g.fuse0
    have g1 := g.fuse
    have g2 := g.cmds0
    have g3 := g.cmds
    by_cases h0 : 0 < R.fuse
    · have hT : Hid (Ref Y ((w.setCell ⟨b, 4, none⟩ (.int .i64 (R.fuse - 1))).setCell ⟨b, 6, none⟩ (.int .i64 (R.cmds + 1))) b (rTick R) ∧ Keep (fun j => j ≠ b) w ((w.setCell ⟨b, 4, none⟩ (.int .i64 (R.fuse - 1))).setCell ⟨b, 6, none⟩ (.int .i64 (R.cmds + 1)))) := by
        have k : Keep (fun j => j ≠ b) w ((w.setCell ⟨b, 4, none⟩ (.int .i64 (R.fuse - 1))).setCell ⟨b, 6, none⟩ (.int .i64 (R.cmds + 1))) := ((Keep.refl _ w).set (p := ⟨b, 4, none⟩) (by simp) _).set (p := ⟨b, 6, none⟩) (by simp) _
        refine ⟨⟨lv, av, dv, kv, h.turn (R' := rTick R) (k.weak fun _ h => h.2) ?_ rfl rfl rfl rfl⟩, k⟩
        have z := (h.blk.set 4 (.int .i64 (R.fuse - 1))).set 6 (.int .i64 (R.cmds + 1))
        simpa [rTick, h0] using z
      clear h H
      go_enter Try.func39, Try.ntmps39
      go_wp2_with fail
      go_ret
      exact ⟨by rw [HB.out.2]; rfl, by rw [HB.out.1]; exact hT.out.1.weak fun _ h => .inl h, hT.out.2.weak fun _ h => h.1⟩
    · have hT : Hid (Ref Y (w.setCell ⟨b, 6, none⟩ (.int .i64 (R.cmds + 1))) b (rTick R) ∧ Keep (fun j => j ≠ b) w (w.setCell ⟨b, 6, none⟩ (.int .i64 (R.cmds + 1)))) := by
        have k : Keep (fun j => j ≠ b) w (w.setCell ⟨b, 6, none⟩ (.int .i64 (R.cmds + 1))) := (Keep.refl _ w).set (p := ⟨b, 6, none⟩) (by simp) _
        refine ⟨⟨lv, av, dv, kv, h.turn (R' := rTick R) (k.weak fun _ h => h.2) ?_ rfl rfl rfl rfl⟩, k⟩
        have z := h.blk.set 6 (.int .i64 (R.cmds + 1))
        simpa [rTick, h0] using z
      clear h H
      go_enter Try.func39, Try.ntmps39
      go_wp2_with fail
      go_ret
      exact ⟨by rw [HB.out.2]; rfl, by rw [HB.out.1]; exact hT.out.1.weak fun _ h => .inl h, hT.out.2.weak fun _ h => h.1⟩
end Go.Proofs.Ytoelaemneoabfaa
