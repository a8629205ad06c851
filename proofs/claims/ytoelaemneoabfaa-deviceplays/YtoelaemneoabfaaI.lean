/-
  The contracts of the device's Blow and command, walked.
-/
import Derived.Test.YtoelaemneoabfaaH
namespace Go.Proofs.Ytoelaemneoabfaa
open Go.RowKit

theorem Dev.off {X : Nat → Prop} {w : World} {b : Nat} {S : St} (h : Dev X w b S) (v : Bool) : Dev X (w.setCell ⟨b, 4, none⟩ (.bool v)) b { S with off := v } ∧ Keep X w (w.setCell ⟨b, 4, none⟩ (.bool v)) := by
  obtain ⟨mb, n, wv, kv, h⟩ := h
  obtain ⟨t, k⟩ := h.turn (S' := { S with off := v }) ((Keep.refl (fun j => j ≠ b) w).set (p := ⟨b, 4, none⟩) (by simp) (.bool v)) (h.blk.set 4 _) rfl rfl rfl rfl
  exact ⟨⟨mb, n, wv, kv, t⟩, k⟩
theorem Dev.done {X : Nat → Prop} {w : World} {b : Nat} {S : St} (h : Dev X w b S) (v : Int) : Dev X (w.setCell ⟨b, 3, none⟩ (.int .i64 v)) b { S with done := v } ∧ Keep X w (w.setCell ⟨b, 3, none⟩ (.int .i64 v)) := by
  obtain ⟨mb, n, wv, kv, h⟩ := h
  obtain ⟨t, k⟩ := h.turn (S' := { S with done := v }) ((Keep.refl (fun j => j ≠ b) w).set (p := ⟨b, 3, none⟩) (by simp) (.int .i64 v)) (h.blk.set 3 _) rfl rfl rfl rfl
  exact ⟨⟨mb, n, wv, kv, t⟩, k⟩
theorem Dev.fuse {X : Nat → Prop} {w : World} {b : Nat} {S : St} (h : Dev X w b S) (v : Int) : Dev X (w.setCell ⟨b, 5, none⟩ (.int .i64 v)) b { S with fuse := v } ∧ Keep X w (w.setCell ⟨b, 5, none⟩ (.int .i64 v)) := by
  obtain ⟨mb, n, wv, kv, h⟩ := h
  obtain ⟨t, k⟩ := h.turn (S' := { S with fuse := v }) ((Keep.refl (fun j => j ≠ b) w).set (p := ⟨b, 5, none⟩) (by simp) (.int .i64 v)) (h.blk.set 5 _) rfl rfl rfl rfl
  exact ⟨⟨mb, n, wv, kv, t⟩, k⟩
theorem Dev.cells {X : Nat → Prop} {w : World} {b : Nat} {S : St} (h : Dev X w b S) : w.cell? ⟨b, 0, none⟩ = some (.int .i64 S.size) ∧ w.cell? ⟨b, 3, none⟩ = some (.int .i64 S.done) ∧ w.cell? ⟨b, 4, none⟩ = some (.bool S.off) ∧ w.cell? ⟨b, 5, none⟩ = some (.int .i64 S.fuse) ∧ ∀ j, w.frozen? ⟨b, j, none⟩ = false := by
  obtain ⟨mb, n, wv, kv, h⟩ := h
  exact ⟨by rw [h.blk.cell]; rfl, by rw [h.blk.cell]; rfl, by rw [h.blk.cell]; rfl, by rw [h.blk.cell]; rfl, h.blk.frozen⟩
theorem Dev.block {X : Nat → Prop} {w : World} {b : Nat} {S : St} (h : Dev X w b S) : b < w.heap.size := by
  obtain ⟨mb, n, wv, kv, h⟩ := h
  exact h.blk.lt
set_option maxHeartbeats 1000000 in
theorem blow_any (X : Nat → Prop) (b : Nat) (S : St) (N : Nat) (K : List Int) (kv : Value) (w : World) (h : Dev X w b S) (g : Good N S) (hk : ReadsN w kv K) (hK : K.length ≤ 1000) :
    Calls Try.prog 15 #[.pointer (some ⟨b, 0, none⟩), kv] w fun e w' => e = .returned (.tuple #[]) ∧ Dev X w' b (blow S K) ∧ Keep X w w' := by
  obtain ⟨_, _, c4, _, _⟩ := h.cells
  cases ho : S.off with
  | true =>
    have HB : Hid (blow S K = S) := by show _ = _; simp [blow, ho]
    rw [ho] at c4
    have HD := hid h
    clear h g hk
    go_enter Try.func15, Try.ntmps15
    go_wp2_with fail
    refine bodyPost_ret (results_none rfl _ _ _) rfl ?_
    exact ⟨rfl, by rw [HB.out]; exact HD.out, Keep.refl _ _⟩
  | false =>
    have HB : Hid (blow S K = { settle S K with off := true }) := by show _ = _; simp [blow, ho]
    rw [ho] at c4
    have HS := settle_any X b S N K kv w h g hk hK
    clear h g hk
    go_enter Try.func15, Try.ntmps15
    go_wp2_with (go_at_call 31; refine HS.mono ?_; rintro e w1 ⟨rfl, h1, k1⟩; obtain ⟨_, _, d4, _, f⟩ := h1.cells; have f4 := f 4; have HF := hid (h1.off true); clear h1)
    go_end0
    exact ⟨rfl, by rw [HB.out]; exact HF.out.1, k1.tr HF.out.2⟩
theorem Good.blow {N : Nat} {S : St} (g : Good N S) (K : List Int) : Good N (blow S K) := by
  unfold Ytoelaemneoabfaa.blow
  split
  · exact g
  · have g' := g.settle K
    exact ⟨g'.n, g'.size1, g'.size2, g'.dat, g'.fin, g'.sec, g'.room, g'.done0, g'.done, g'.fuse0, g'.fuse, g'.keep⟩
theorem Good.more {N M : Nat} {S : St} (g : Good N S) (h : N ≤ M) (hM : M ≤ 1000) : Good M S :=
  ⟨hM, g.size1, g.size2, g.dat, g.fin, g.sec, by have := g.room; omega, g.done0, by have := g.done; omega, g.fuse0, g.fuse, g.keep⟩
def tick (S : St) : St := { S with fuse := if 1 < S.fuse then S.fuse - 1 else S.fuse, done := S.done + 1 }
def command (S : St) : St := if S.fuse = 1 then blow S S.keep else tick S
def cmdE (S : St) : Int := if S.fuse = 1 then 7 else 0
theorem Good.tick {N : Nat} {S : St} (g : Good N S) (h : N + 1 ≤ 1000) : Good (N + 1) (tick S) :=
  ⟨h, g.size1, g.size2, g.dat, g.fin, g.sec, by have := g.room; simp [Ytoelaemneoabfaa.tick]; omega, by have := g.done0; simp [Ytoelaemneoabfaa.tick]; omega, by have := g.done; simp [Ytoelaemneoabfaa.tick]; omega,
    by have := g.fuse0; simp only [Ytoelaemneoabfaa.tick]; split <;> omega, by have := g.fuse; simp only [Ytoelaemneoabfaa.tick]; split <;> omega, g.keep⟩
theorem Good.command {N : Nat} {S : St} (g : Good N S) (h : N + 1 ≤ 1000) : Good (N + 1) (command S) := by
  unfold Ytoelaemneoabfaa.command
  split
  · exact (g.blow _).more (by omega) h
  · exact g.tick h
set_option maxHeartbeats 1000000 in
theorem command_any (X : Nat → Prop) (b : Nat) (S : St) (N : Nat) (w : World) (h : Dev X w b S) (g : Good N S) :
    Calls Try.prog 30 #[.pointer (some ⟨b, 0, none⟩)] w fun e w' => e = .returned (.int .i64 (cmdE S)) ∧ Dev X w' b (command S) ∧ Keep X w w' := by
  obtain ⟨_, c3, _, c5, f⟩ := h.cells
  by_cases h1 : S.fuse = 1
  · have HB : Hid (command S = blow S S.keep ∧ cmdE S = 7) := ⟨by simp [command, h1], by simp [cmdE, h1]⟩
    rw [h1] at c5
    obtain ⟨kv, c6, hk⟩ : ∃ kv, w.cell? ⟨b, 6, none⟩ = some kv ∧ ReadsN w kv S.keep := by
      obtain ⟨mb, n, wv, kv, h⟩ := h
      exact ⟨kv, by rw [h.blk.cell]; rfl, readsN_of h.keep⟩
    have HS := blow_any X b S N S.keep kv w h g hk g.keep
    clear h g hk
    go_enter Try.func30, Try.ntmps30
    go_wp2_with (go_at_call 15; refine HS.mono ?_; rintro e w1 ⟨rfl, h1, k1⟩)
    go_ret
    exact ⟨by rw [HB.out.2]; rfl, by rw [HB.out.1]; exact h1, k1⟩
  · have q : (S.fuse == 1) = false := by simpa using h1
    have f5 := f 5
    have f3 := f 3
    have g1 := g.done0
    have g2 := g.done
    have g3 := g.n
    have g4 := g.fuse0
    have g5 := g.fuse
    by_cases h2 : 1 < S.fuse
    · have HB : Hid (command S = { S with fuse := S.fuse - 1, done := S.done + 1 } ∧ cmdE S = 0) := ⟨by simp [command, h1, tick, h2], by simp [cmdE, h1]⟩
      have HF : Hid (Dev X ((w.setCell ⟨b, 5, none⟩ (.int .i64 (S.fuse - 1))).setCell ⟨b, 3, none⟩ (.int .i64 (S.done + 1))) b { S with fuse := S.fuse - 1, done := S.done + 1 } ∧ Keep X w ((w.setCell ⟨b, 5, none⟩ (.int .i64 (S.fuse - 1))).setCell ⟨b, 3, none⟩ (.int .i64 (S.done + 1)))) := by
        obtain ⟨a1, a2⟩ := h.fuse (S.fuse - 1)
        obtain ⟨a3, a4⟩ := a1.done (S.done + 1)
        exact ⟨a3, a2.tr a4⟩
      clear h g f
      generalize S.fuse = fu at *
      generalize S.done = dn at *
      go_enter Try.func30, Try.ntmps30
      go_wp2_with fail
      go_ret
      exact ⟨by rw [HB.out.2]; rfl, by rw [HB.out.1]; exact HF.out.1, HF.out.2⟩
    · have q2 : decide (1 < S.fuse) = false := by simpa using h2
      have HB : Hid (command S = { S with done := S.done + 1 } ∧ cmdE S = 0) := ⟨by simp [command, h1, tick, h2], by simp [cmdE, h1]⟩
      have HF : Hid (Dev X (w.setCell ⟨b, 3, none⟩ (.int .i64 (S.done + 1))) b { S with done := S.done + 1 } ∧ Keep X w (w.setCell ⟨b, 3, none⟩ (.int .i64 (S.done + 1)))) := h.done _
      clear h g f
      generalize S.fuse = fu at *
      generalize S.done = dn at *
      go_enter Try.func30, Try.ntmps30
      go_wp2_with fail
      go_ret
      exact ⟨by rw [HB.out.2]; rfl, by rw [HB.out.1]; exact HF.out.1, HF.out.2⟩
end Go.Proofs.Ytoelaemneoabfaa
