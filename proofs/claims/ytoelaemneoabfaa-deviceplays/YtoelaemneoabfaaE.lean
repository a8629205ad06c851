/-
  The contracts of the device's New, Size, Off, On, Open, check, Read, walked.
-/
import Derived.Test.YtoelaemneoabfaaD
namespace Go.Proofs.Ytoelaemneoabfaa
open Go.RowKit

theorem DevAt.parts {X : Nat → Prop} {w w' : World} {b : Nat} {S : St} {mb n : Nat} {wv kv : Value} (h : DevAt X w b S mb n wv kv) (k : Keep (fun j => j ≠ b) w w') :
    MapW w' mb n S.fin ∧ w'.ownsRow 0 65 2 wv S.wait.length (csW S.wait) ∧ w'.ownsRow 0 3 1 kv S.keep.length (csN S.keep) ∧ (∀ j, X j → j < w'.heap.size) ∧ Keep X w w' := by
  have nb : ∀ {e : TypeId} {size : Nat} {v : Value} {m : Nat} {xs : List Value}, e ≠ 61 → w.ownsRow 0 e size v m xs → ∀ g, v.ownBlock = some g → g ≠ b := by
    intro e size v m xs he hv g hg e'
    subst e'
    rcases hv.2 with ⟨rfl, _⟩ | ⟨g', cap, cur, rfl, _, hgb, _⟩
    · simp [Value.ownBlock] at hg
    · obtain rfl : g' = g := by simpa [Value.ownBlock] using hg
      have := (show w.heap[g']? = _ from h.blk).symm.trans hgb
      simp at this
      exact he this.2.symm
  have hmb : mb ≠ b := fun e => by
    obtain ⟨D, ⟨es, clock, h1, _⟩, _⟩ := h.map
    rw [e, show w.heap[b]? = _ from h.blk] at h1
    cases h1
  exact ⟨h.map.same (k.block mb hmb), row_keep h.wait k (nb (by decide) h.wait), row_keep h.keep k (nb (by decide) h.keep), fun j hj => Nat.lt_of_lt_of_le (h.lt j hj) k.size, k.weak (fun j hj e => h.xb (by rw [← e]; exact hj))⟩
def new (n : Int) : St := { size := n, fin := fun _ => (0, []), wait := [], done := 0, off := false, fuse := 0, keep := [], room := 0 }
set_option maxHeartbeats 1000000 in
theorem new_any (n : Int) (w : World) (h1 : 1 ≤ n) (h2 : n ≤ 4096) :
    Calls Try.prog 9 #[.int .i64 n] w fun e w' => ∃ b, e = .returned (.tuple #[.pointer (some ⟨b, 0, none⟩), .int .i64 0]) ∧ Dev (fun k => k < w.heap.size) w' b (new n) ∧ Bel w w' := by
  have hmm := @run_makeMap Try.prog
  have q1 : decide (n < 1) = false := by simp; omega
  have q2 : decide (4096 < n) = false := by simp; omega
  go_enter Try.func9, Try.ntmps9
  go_wp2_with fail
  go_ret2
  have hb : Blk ((w.alloc (.map #[] 0)).alloc (.cells #[.int .i64 n, .map (some w.heap.size), .slice none 0 0, .int .i64 0, .bool false, .int .i64 0, .slice none 0 0] 61)) (w.heap.size + 1) #[.int .i64 n, .map (some w.heap.size), .slice none 0 0, .int .i64 0, .bool false, .int .i64 0, .slice none 0 0] 61 := by
    simpa only [World.size_alloc] using Blk.new (w.alloc (.map #[] 0)) _ 61
  refine ⟨_, rfl, ⟨w.heap.size, 0, .slice none 0 0, .slice none 0 0, hb, (MapW.new w).same (Below.heap_alloc _ _ _ (by simp)), Nat.le_refl _, World.ownsRow_nil _ _ _ _, World.ownsRow_nil _ _ _ _, ?_, by simp, by simp [Value.ownBlock], by simp [Value.ownBlock], fun k hk => by simp; omega⟩, Bel.al (Bel.al (Below.refl _ _) _) _⟩
  simp
set_option maxHeartbeats 1000000 in
theorem new_none (n : Int) (w : World) (h : n < 1 ∨ 4096 < n) :
    Calls Try.prog 9 #[.int .i64 n] w fun e w' => e = .returned (.tuple #[.pointer none, .int .i64 1]) ∧ Bel w w' := by
  rcases h with h | h
  · go_enter Try.func9, Try.ntmps9
    go_wp2_with fail
    go_ret2
    exact ⟨rfl, Below.refl _ _⟩
  · have q1 : ¬ n < 1 := by omega
    go_enter Try.func9, Try.ntmps9
    go_wp2_with fail
    go_ret2
    exact ⟨rfl, Below.refl _ _⟩
set_option maxHeartbeats 1000000 in
theorem size_any (X : Nat → Prop) (b : Nat) (S : St) (w : World) (h : Dev X w b S) : Calls Try.prog 23 #[.pointer (some ⟨b, 0, none⟩)] w fun e w' => e = .returned (.int .i64 S.size) ∧ w = w' := by
  obtain ⟨mb, n, wv, kv, h⟩ := h
  have c : w.cell? ⟨b, 0, none⟩ = some (.int .i64 S.size) := by rw [h.blk.cell]; rfl
  go_enter Try.func23, Try.ntmps23
  go_wp2_with fail
  go_ret
  exact ⟨rfl, rfl⟩
set_option maxHeartbeats 1000000 in
theorem off_any (X : Nat → Prop) (b : Nat) (S : St) (w : World) (h : Dev X w b S) : Calls Try.prog 24 #[.pointer (some ⟨b, 0, none⟩)] w fun e w' => e = .returned (.bool S.off) ∧ w = w' := by
  obtain ⟨mb, n, wv, kv, h⟩ := h
  have c : w.cell? ⟨b, 4, none⟩ = some (.bool S.off) := by rw [h.blk.cell]; rfl
  go_enter Try.func24, Try.ntmps24
  go_wp2_with fail
  go_ret
  exact ⟨rfl, rfl⟩
set_option maxHeartbeats 1000000 in
theorem open_any (X : Nat → Prop) (b : Nat) (S : St) (w : World) (h : Dev X w b S) : Calls Try.prog 22 #[.pointer (some ⟨b, 0, none⟩)] w fun e w' => e = .returned (.tuple #[.int .i64 (S.wait.length : Nat), .int .i64 S.done]) ∧ Bel w w' := by
  obtain ⟨mb, n, wv, kv, h⟩ := h
  obtain ⟨a, cap, rfl, _⟩ := showsW_of h.wait
  have c : w.cell? ⟨b, 2, none⟩ = some (.slice a S.wait.length cap) := by rw [h.blk.cell]; rfl
  have c2 : w.cell? ⟨b, 3, none⟩ = some (.int .i64 S.done) := by rw [h.blk.cell]; rfl
  go_enter Try.func22, Try.ntmps22
  go_wp2_with fail
  go_region
  go_wp2_with fail
  go_ret2
  exact ⟨rfl, (Below.refl _ _).drew⟩
def on (S : St) : St := { S with off := false, fuse := 0, keep := [] }
set_option maxHeartbeats 1000000 in
theorem on_any (X : Nat → Prop) (b : Nat) (S : St) (w : World) (h : Dev X w b S) : Calls Try.prog 20 #[.pointer (some ⟨b, 0, none⟩)] w fun e w' => e = .returned (.tuple #[]) ∧ Dev X w' b (on S) ∧ Keep X w w' := by
  obtain ⟨mb, n, wv, kv, h⟩ := h
  have c4 : w.cell? ⟨b, 4, none⟩ = some (.bool S.off) := by rw [h.blk.cell]; rfl
  have c5 : w.cell? ⟨b, 5, none⟩ = some (.int .i64 S.fuse) := by rw [h.blk.cell]; rfl
  have c6 : w.cell? ⟨b, 6, none⟩ = some kv := by rw [h.blk.cell]; rfl
  have f4 := h.blk.frozen 4
  have f5 := h.blk.frozen 5
  have f6 := h.blk.frozen 6
  have HF : Hid (Dev X (((w.setCell ⟨b, 4, none⟩ (.bool false)).setCell ⟨b, 5, none⟩ (.int .i64 0)).setCell ⟨b, 6, none⟩ (.slice none 0 0)) b (on S) ∧ Keep X w (((w.setCell ⟨b, 4, none⟩ (.bool false)).setCell ⟨b, 5, none⟩ (.int .i64 0)).setCell ⟨b, 6, none⟩ (.slice none 0 0))) := by
    have k : Keep (fun j => j ≠ b) w (((w.setCell ⟨b, 4, none⟩ (.bool false)).setCell ⟨b, 5, none⟩ (.int .i64 0)).setCell ⟨b, 6, none⟩ (.slice none 0 0)) := (((Keep.refl _ w).set (p := ⟨b, 4, none⟩) (by simp) _).set (p := ⟨b, 5, none⟩) (by simp) _).set (p := ⟨b, 6, none⟩) (by simp) _
    obtain ⟨p1, p2, p3, p4, p5⟩ := h.parts k
    exact ⟨⟨mb, n, wv, .slice none 0 0, ((h.blk.set 4 (.bool false)).set 5 (.int .i64 0)).set 6 (.slice none 0 0), p1, h.room, p2, World.ownsRow_nil _ _ _ _, h.xb, h.xm, h.xw, by simp [Value.ownBlock], p4⟩, p5⟩
  clear h
  go_enter Try.func20, Try.ntmps20
  go_wp2_with fail
  go_end0
  exact ⟨rfl, HF.out⟩
/-- Why sector i can't be read or written. -/
def check (S : St) (i : Int) : Int := if S.off then 7 else if i < 0 ∨ S.size ≤ i then 1 else 0
set_option maxHeartbeats 1000000 in
theorem check_any (X : Nat → Prop) (b : Nat) (S : St) (i : Int) (w : World) (h : Dev X w b S) : Calls Try.prog 29 #[.pointer (some ⟨b, 0, none⟩), .int .i64 i] w fun e w' => e = .returned (.int .i64 (check S i)) ∧ w = w' := by
  obtain ⟨mb, n, wv, kv, h⟩ := h
  have c0 : w.cell? ⟨b, 0, none⟩ = some (.int .i64 S.size) := by rw [h.blk.cell]; rfl
  have c4 : w.cell? ⟨b, 4, none⟩ = some (.bool S.off) := by rw [h.blk.cell]; rfl
  clear h
  unfold check
  obtain ⟨sz, _, _, _, off, _, _, _⟩ := S
  simp only at *
  cases off with
  | true =>
    go_enter Try.func29, Try.ntmps29
    go_wp2_with fail
    go_ret
    exact ⟨rfl, rfl⟩
  | false =>
    by_cases h1 : i < 0
    · simp only [h1, true_or, if_true, Bool.false_eq_true, if_false]
      go_enter Try.func29, Try.ntmps29
      go_wp2_with fail
      go_ret
      exact ⟨rfl, rfl⟩
    · have q1 : decide (i < 0) = false := by simpa using h1
      by_cases h2 : sz ≤ i
      · simp only [h2, or_true, if_true, Bool.false_eq_true, if_false]
        go_enter Try.func29, Try.ntmps29
        go_wp2_with fail
        go_ret
        exact ⟨rfl, rfl⟩
      · have q2 : decide (sz ≤ i) = false := by simpa using h2
        simp only [h1, h2, or_false, Bool.false_eq_true, if_false]
        go_enter Try.func29, Try.ntmps29
        go_wp2_with fail
        go_ret
        exact ⟨rfl, rfl⟩
end Go.Proofs.Ytoelaemneoabfaa
