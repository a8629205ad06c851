/-
  The reference of layer 3: Sync, walked.
-/
import Derived.Test.YtoelaemneoabfaaRJ
namespace Go.Proofs.Ytoelaemneoabfaa
open Go.RowKit

def rSync (R : Rf) : Rf := if R.off then R else if R.fuse = 1 then rStep R else { rTick R with last := fold [1] R.at' R.data R.last R.at'.length, at' := [], data := [] }
def rSyncE (R : Rf) : Int := if R.off then 7 else if R.fuse = 1 then 7 else 0
theorem GoodR.sync {N : Nat} {R : Rf} (g : GoodR N R) (hN : N + 1 ≤ 1000) : GoodR (N + 1) (rSync R) := by
  unfold rSync
  split
  · exact ⟨hN, g.ne, g.few, g.len, by have := g.wait; omega, g.sec, g.keep, g.fuse0, g.fuse, g.cmds0, by have := g.cmds; omega⟩
  · split
    · exact g.step hN
    · rename_i h
      have := g.step hN
      simp only [rStep, if_neg h] at this
      exact ⟨hN, by simpa [fold_length] using g.ne, by simpa [fold_length] using g.few, rfl, by simp, by intro m h; simp at h, this.keep, this.fuse0, this.fuse, this.cmds0, this.cmds⟩
/-- The sectors are stored, what waited is gone. -/
theorem ref_synced {Y : Nat → Prop} {w wr : World} {b : Nat} {R : Rf} {lv av dv kv : Value} (h : RefAt Y w b R lv av dv kv) {g n cap : Nat} {L : List M.Tx} (hn : L.length = n) (ho : wr.ownsRow w.heap.size 9 1 (.slice (some ⟨g, 0, none⟩) n cap) n (csT L)) (hb : Bel w wr) (hy : ∀ j, Y j → j < w.heap.size) :
    Ref (fun j => Y j ∨ (w.heap.size ≤ j ∧ j < (((wr.setCell ⟨b, 0, none⟩ (.slice (some ⟨g, 0, none⟩) n cap)).setCell ⟨b, 1, none⟩ (.slice none 0 0)).setCell ⟨b, 2, none⟩ (.slice none 0 0)).heap.size)) (((wr.setCell ⟨b, 0, none⟩ (.slice (some ⟨g, 0, none⟩) n cap)).setCell ⟨b, 1, none⟩ (.slice none 0 0)).setCell ⟨b, 2, none⟩ (.slice none 0 0)) b { R with last := L, at' := [], data := [] } ∧
    Keep (fun j => j ≠ b ∧ j < w.heap.size) w (((wr.setCell ⟨b, 0, none⟩ (.slice (some ⟨g, 0, none⟩) n cap)).setCell ⟨b, 1, none⟩ (.slice none 0 0)).setCell ⟨b, 2, none⟩ (.slice none 0 0)) := by
  subst hn
  have hbw := h.blk.lt
  have hblk := h.blk.below hb hbw
  obtain ⟨hg0, hg1⟩ := ho.lt g rfl
  have hc : ∀ j (h : j < L.length), wr.cell? ⟨g, j, none⟩ = some (.string (M.bs L[j])) := fun j hj => by
    rw [ho.cellAt j (by omega)]; simp [csT, hj]
  have hk : Keep (fun j => j ≠ b) wr (((wr.setCell ⟨b, 0, none⟩ (.slice (some ⟨g, 0, none⟩) L.length cap)).setCell ⟨b, 1, none⟩ (.slice none 0 0)).setCell ⟨b, 2, none⟩ (.slice none 0 0)) := (((Keep.refl _ wr).set (p := ⟨b, 0, none⟩) (by simp) _).set (p := ⟨b, 1, none⟩) (by simp) _).set (p := ⟨b, 2, none⟩) (by simp) _
  have hn3 : Blk (((wr.setCell ⟨b, 0, none⟩ (.slice (some ⟨g, 0, none⟩) L.length cap)).setCell ⟨b, 1, none⟩ (.slice none 0 0)).setCell ⟨b, 2, none⟩ (.slice none 0 0)) b #[.slice (some ⟨g, 0, none⟩) L.length cap, .slice none 0 0, .slice none 0 0, .bool R.off, .int .i64 R.fuse, kv, .int .i64 R.cmds] 31 := by
    have z := ((hblk.set 0 (.slice (some ⟨g, 0, none⟩) L.length cap)).set 1 (.slice none 0 0)).set 2 (.slice none 0 0)
    simpa using z
  have kk : Keep (fun j => j ≠ b ∧ j < w.heap.size) w (((wr.setCell ⟨b, 0, none⟩ (.slice (some ⟨g, 0, none⟩) L.length cap)).setCell ⟨b, 1, none⟩ (.slice none 0 0)).setCell ⟨b, 2, none⟩ (.slice none 0 0)) := (Keep.of_bel (X := fun j => j ≠ b ∧ j < w.heap.size) hb (fun _ h => h.2)).tr (hk.weak fun _ h => h.1)
  generalize (((wr.setCell ⟨b, 0, none⟩ (.slice (some ⟨g, 0, none⟩) L.length cap)).setCell ⟨b, 1, none⟩ (.slice none 0 0)).setCell ⟨b, 2, none⟩ (.slice none 0 0)) = W at *
  refine ⟨⟨.slice (some ⟨g, 0, none⟩) L.length cap, .slice none 0 0, .slice none 0 0, kv, hn3, ⟨_, cap, rfl, .inr ⟨g, 0, rfl, ⟨.inr ⟨hg0, Nat.lt_of_lt_of_le hg1 hk.size⟩, by omega⟩, fun j hj => ?_⟩⟩, ⟨none, 0, rfl, .inl ⟨rfl, rfl, rfl⟩⟩, ⟨none, 0, rfl, .inl ⟨rfl, rfl, rfl⟩⟩, ?_, rfl, .inl h.yb⟩, kk⟩
  · rw [Nat.zero_add]
    exact (hk.cell (p := ⟨g, j, none⟩) (show g ≠ b by omega)).trans (hc j hj)
  · exact (h.keep.keep (kk.weak fun j hj => ⟨hj.2, hy j hj.1⟩)).weak fun j hj => ⟨.inl hj.1, hj.2⟩
/-- What lies ready, when the sectors are to be copied. -/
theorem sync_ahead (Y : Nat → Prop) (b : Nat) (R : Rf) (N : Nat) (w w1 : World) (h1 : Ref (fun j => Y j ∨ (w.heap.size ≤ j ∧ j < w1.heap.size)) w1 b (rTick R)) (gS : GoodR (N + 1) (rTick R)) :
    ∃ g1 cap1 w2 aa acap da dcap la lcap qv, (Builtin.append_ #[28, 28] 28 #[.slice (some ⟨w1.heap.size, 0, none⟩) 0 0, .slice la R.last.length lcap]).run Try.prog (w1.alloc (.cells #[] 9)) = .ok (.slice (some ⟨g1, 0, none⟩) R.last.length cap1) w2 ∧
      (w1.alloc (.cells #[] 9)).cell? ⟨b, 0, none⟩ = some (.slice la R.last.length lcap) ∧
      Hid (RefAt (fun j => Y j ∨ (w.heap.size ≤ j ∧ j < w1.heap.size)) w1 b (rTick R) (.slice la R.last.length lcap) (.slice aa R.at'.length acap) (.slice da R.data.length dcap) qv) ∧
      Hid (FI w1 g1 R.last.length cap1 [1] R 0 w2) ∧
      (aa = none ∧ acap = 0 ∧ R.at' = [] ∨ ∃ g off, aa = some ⟨g, off, none⟩ ∧ ∀ j (h : j < R.at'.length), w1.cell? ⟨g, off + j, none⟩ = some (.int .i64 R.at'[j])) ∧
      (da = none ∧ dcap = 0 ∧ R.data = [] ∨ ∃ g off, da = some ⟨g, off, none⟩ ∧ ∀ j (h : j < R.data.length), w1.cell? ⟨g, off + j, none⟩ = some (.string (M.bs R.data[j]))) ∧
      R.at'.length = R.data.length ∧ b < w1.heap.size := by
  obtain ⟨lv, av, dv, qv, h1⟩ := h1
  have hL : (rTick R).last = R.last := rfl
  have hbl := h1.blk.lt
  obtain ⟨v1, w2, ha, ho1, hb1⟩ := cpT h1.last (by have := gS.few; omega)
  obtain ⟨g1, cap1, rfl⟩ : ∃ g1 cap1, v1 = .slice (some ⟨g1, 0, none⟩) R.last.length cap1 := by
    rcases ho1.2 with ⟨_, e⟩ | ⟨g', cap', cur, e, _⟩
    · have := gS.ne; omega
    · exact ⟨g', cap', e⟩
  obtain ⟨aa, acap, rfl, hat⟩ := h1.at'
  obtain ⟨da, dcap, rfl, hdat⟩ := h1.data
  obtain ⟨la, lcap, rfl, _⟩ := h1.last
  refine ⟨g1, cap1, w2, aa, acap, da, dcap, la, lcap, qv, ha, (bel_cell (Bel.al (Below.refl _ _) _) hbl 0).trans (by rw [h1.blk.cell]; rfl), h1, ⟨ho1, hb1⟩, hat.imp id ?_, hdat.imp id ?_, h1.len, hbl⟩
  · rintro ⟨g, off, e, _, hc⟩
    exact ⟨g, off, e, hc⟩
  · rintro ⟨g, off, e, _, hc⟩
    exact ⟨g, off, e, hc⟩
theorem taken_one (m : Nat) : taken [1] m = true := by simp [taken, Nat.mod_one]
set_option maxHeartbeats 8000000 in
theorem rSync_any (Y : Nat → Prop) (b : Nat) (R : Rf) (N : Nat) (w : World) (h : Ref Y w b R) (g : GoodR N R) (hN : N + 1 ≤ 1000) (hy : ∀ j, Y j → j < w.heap.size) :
    Calls Try.prog 33 #[.pointer (some ⟨b, 0, none⟩)] w fun e w' => e = .returned (.int .i64 (rSyncE R)) ∧ Ref (fun j => Y j ∨ (w.heap.size ≤ j ∧ j < w'.heap.size)) w' b (rSync R) ∧ Keep (fun j => j ≠ b ∧ j < w.heap.size) w w' := by
  have H := hid h
  have c3 : w.cell? ⟨b, 3, none⟩ = some (.bool R.off) := by
    obtain ⟨lv, av, dv, kv, h⟩ := h
    rw [h.blk.cell]; rfl
  cases ho : R.off with
  | true =>
    have HB : Hid (rSync R = R ∧ rSyncE R = 7) := ⟨by simp [rSync, ho], by simp [rSyncE, ho]⟩
    rw [ho] at c3
    clear h
    go_enter Try.func33, Try.ntmps33
    go_wp2_with fail
    go_ret
    exact ⟨by rw [HB.out.2]; rfl, by rw [HB.out.1]; exact H.out.weak fun _ h => .inl h, Keep.refl _ _⟩
  | false =>
    rw [ho] at c3
    have hs := rStep_any Y b R N w h g hN
    have gS := g.step hN
    clear h H
    by_cases hf : R.fuse = 1
    · have HB : Hid (rSync R = rStep R ∧ rSyncE R = 7) := ⟨by simp [rSync, ho, hf], by simp [rSyncE, ho, hf]⟩
      have hq : (R.fuse != 1) = false := by simp [hf]
      rw [hq] at hs
      clear hf ho
      go_enter Try.func33, Try.ntmps33
      go_wp2_with (go_at_call 39; refine hs.mono ?_; rintro e w1 ⟨rfl, h1, h2⟩)
      have hX := hid h1
      clear h1
      go_ret
      exact ⟨by rw [HB.out.2]; rfl, by rw [HB.out.1]; exact hX.out, h2⟩
    · have hq : (R.fuse != 1) = true := by simpa using hf
      have HB : Hid (rSync R = { rTick R with last := fold [1] R.at' R.data R.last R.at'.length, at' := [], data := [] } ∧ rSyncE R = 0) := ⟨by simp [rSync, ho, hf], by simp [rSyncE, ho, hf]⟩
      have hst : rStep R = rTick R := by simp [rStep, hf]
      rw [hq, hst] at hs
      rw [hst] at gS
      clear hf ho hst
      go_enter Try.func33, Try.ntmps33
      go_wp2_with (first
        | (go_at_call 39
           refine hs.mono ?_
           rintro e w1 ⟨rfl, h1, k1⟩
           obtain ⟨g1, cap1, w2, aa, acap, da, dcap, la, lcap, qv, ha, c0, hR1, hFI, hat, hdat, hlen, hbl⟩ := sync_ahead Y b R N w w1 h1 gS
           have K1 := hid k1
           clear h1 k1 hs)
        | (at_builtin; refine appL rfl _ _ rfl rfl rfl ha ?_))
      go_loopw [4] (fun i wr => ∃ m : Nat, m ≤ R.at'.length ∧ i = .int .i64 m ∧ Hid (FI w1 g1 R.last.length cap1 [1] R m wr)) (fun i _ => R.at'.length - (intOf i).toNat)
      case atStart => exact ⟨0, by omega, rfl, hFI⟩
      case round =>
        obtain ⟨m, hm, rfl, HI⟩ := hrel
        have hblk : Blk wr b _ 31 := hR1.out.blk.below HI.out.2 hbl
        have hw4 := g.wait
        by_cases hlt : m < R.at'.length
        · have c1 : wr.cell? ⟨b, 1, none⟩ = some (.slice aa R.at'.length acap) := by rw [hblk.cell]; rfl
          have c2 : wr.cell? ⟨b, 2, none⟩ = some (.slice da R.data.length dcap) := by rw [hblk.cell]; rfl
          obtain ⟨ag, ao, rfl, ac⟩ : ∃ g off, aa = some ⟨g, off, none⟩ ∧ ∀ j (h : j < R.at'.length), w1.cell? ⟨g, off + j, none⟩ = some (.int .i64 R.at'[j]) := by
            rcases hat with h | h
            · rw [h.2.2] at hlt; simp at hlt
            · exact h
          obtain ⟨dg, d0, rfl, dc⟩ : ∃ g off, da = some ⟨g, off, none⟩ ∧ ∀ j (h : j < R.data.length), w1.cell? ⟨g, off + j, none⟩ = some (.string (M.bs R.data[j])) := by
            rcases hdat with h | h
            · rw [h.2.2, List.length_nil] at hlen; omega
            · exact h
          have e1 := ac m hlt
          have e2 := dc m (by omega)
          have b1 := (bel_cell HI.out.2 (block_lt_of_cell e1) (ao + m)).trans e1
          have b2 := (bel_cell HI.out.2 (block_lt_of_cell e2) (d0 + m)).trans e2
          obtain ⟨hs0, hs1⟩ := g.sec m hlt
          have HA : Hid (R.at'[m]?.getD 0 = R.at'[m]) := by show _ = _; simp [hlt]
          have HD : Hid (R.data[m]?.getD [] = R.data[m]'(by omega)) := by show _ = _; simp [show m < R.data.length by omega]
          have hmd : (m : Int) < (R.data.length : Int) := by omega
          have hma : (m : Int) < (R.at'.length : Int) := by omega
          clear e1 e2 ac dc hat hdat
          generalize R.at'[m] = x at *
          generalize R.data[m]'(by omega) = t at *
          obtain ⟨q, rfl⟩ : ∃ q : Nat, x = (q : Int) := ⟨x.toNat, by omega⟩
          have hqq : q < R.last.length := by omega
          obtain ⟨u, rc⟩ : ∃ u, wr.cell? ⟨g1, q, none⟩ = some u := by
            rw [HI.out.1.cellAt q (by omega)]
            exact ⟨_, List.getElem?_eq_getElem (by rw [csT_length, fold_length]; omega)⟩
          have rf := HI.out.1.frozenAt q
          have HU : Hid (FI w1 g1 R.last.length cap1 [1] R (m + 1) (wr.setCell ⟨g1, q, none⟩ (.string (M.bs t))).drew) := (HI.out.store (taken_one m) q t HA.out HD.out).drew
          have hqn : (q : Int) < (R.last.length : Int) := by omega
          clear HI HA HD hblk gS g
          go_wp2_with fail
          go_region
          go_wp2_with fail
          go_roundw
          case rel => exact ⟨m + 1, by omega, by go_num, HU⟩
          case measure => simp [intOf]; omega
        · obtain rfl : m = R.at'.length := by omega
          have c1 : wr.cell? ⟨b, 1, none⟩ = some (.slice aa R.at'.length acap) := by rw [hblk.cell]; rfl
          have c2 : wr.cell? ⟨b, 2, none⟩ = some (.slice da R.data.length dcap) := by rw [hblk.cell]; rfl
          have c0' : wr.cell? ⟨b, 0, none⟩ = some (.slice la R.last.length lcap) := by rw [hblk.cell]; rfl
          have f0 := hblk.frozen 0
          have f1 := hblk.frozen 1
          have f2 := hblk.frozen 2
          have hY1 : ∀ j, (Y j ∨ w.heap.size ≤ j ∧ j < w1.heap.size) → j < w1.heap.size := fun j hj => by
            rcases hj with hj | hj
            · exact Nat.lt_of_lt_of_le (hy j hj) K1.out.size
            · exact hj.2
          obtain ⟨z1, z2⟩ := ref_synced hR1.out (by rw [fold_length]) HI.out.1 HI.out.2 hY1
          have hsz := z2.size
          have hsz1 := K1.out.size
          have hFF : Hid (Ref (fun j => Y j ∨ (w.heap.size ≤ j ∧ j < (((wr.setCell ⟨b, 0, none⟩ (.slice (some ⟨g1, 0, none⟩) R.last.length cap1)).setCell ⟨b, 1, none⟩ (.slice none 0 0)).setCell ⟨b, 2, none⟩ (.slice none 0 0)).heap.size)) (((wr.setCell ⟨b, 0, none⟩ (.slice (some ⟨g1, 0, none⟩) R.last.length cap1)).setCell ⟨b, 1, none⟩ (.slice none 0 0)).setCell ⟨b, 2, none⟩ (.slice none 0 0)) b { rTick R with last := fold [1] R.at' R.data R.last R.at'.length, at' := [], data := [] } ∧
              Keep (fun j => j ≠ b ∧ j < w.heap.size) w (((wr.setCell ⟨b, 0, none⟩ (.slice (some ⟨g1, 0, none⟩) R.last.length cap1)).setCell ⟨b, 1, none⟩ (.slice none 0 0)).setCell ⟨b, 2, none⟩ (.slice none 0 0))) := by
            refine ⟨z1.weak fun j hj => ?_, K1.out.tr (z2.weak fun j hj => ⟨hj.1, by omega⟩)⟩
            rcases hj with (hj | hj) | hj
            · exact .inl hj
            · exact .inr ⟨hj.1, by omega⟩
            · exact .inr ⟨by omega, hj.2⟩
          clear hblk HI z1 z2 hsz hsz1 hY1 gS g hat hdat
          go_wp2_with fail
          go_ret
          exact ⟨by rw [HB.out.2]; rfl, by rw [HB.out.1]; exact hFF.out.1, hFF.out.2⟩
end Go.Proofs.Ytoelaemneoabfaa
