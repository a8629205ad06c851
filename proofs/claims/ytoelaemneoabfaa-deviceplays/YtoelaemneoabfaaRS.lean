/-
  The law DevicePlays: do and done whole; same, walked.
-/
import Derived.Test.YtoelaemneoabfaaRR
import Derived.BigQuiet
import Derived.Deep.QuietTactic
namespace Go.Proofs.Ytoelaemneoabfaa
open Go.RowKit
set_option maxRecDepth 100000

theorem readsN_nil {w : World} {kcap : Nat} {K : List Int} (h : ReadsN w (.slice none K.length kcap) K) : K = [] := by
  obtain ⟨a', cap', e, h⟩ := h
  cases e
  rcases h with h | ⟨_, _, h, _⟩
  · exact h
  · cases h
theorem do_any (X : Nat → Prop) (d : Nat) (S : St) (N : Nat) (what i : Int) (t : M.Tx) (a : Option Addr) (kcap : Nat) (K : List Int) (w : World) (h : Dev X w d S) (g : Good N S) (hN : N + 1 ≤ 1000)
    (hk : ReadsN w (.slice a K.length kcap) K) (hkc : K.length ≤ kcap) (hkm : K.length ≤ maxLen) (ht : t.length ≤ maxLen) :
    Calls Try.prog 16 #[.pointer (some ⟨d, 0, none⟩), .agg #[.int .i64 what, .int .i64 i, .string (M.bs t), .slice a K.length kcap]] w fun e w' => e = .returned (.tuple #[.string (M.bs (doT (kindI what) S i)), .int .i64 (doE (kindI what) S i (t.take 300))]) ∧ Dev X w' d (doS (kindI what) S i (t.take 300) (K.take 9)) ∧ Keep X w w' := by
  cases a with
  | none =>
    obtain rfl := readsN_nil hk
    exact do_none X d S N what i t kcap [] w h g hN rfl ht
  | some ka => exact do_some X d S N what i t ka kcap K w h g hN hk hkc hkm ht
theorem done_any (Y : Nat → Prop) (d : Nat) (R : Rf) (N : Nat) (what i : Int) (t : M.Tx) (a : Option Addr) (kcap : Nat) (K : List Int) (w : World) (h : Ref Y w d R) (g : GoodR N R) (hN : N + 1 ≤ 1000) (hX : ∀ j, Y j → j < w.heap.size)
    (hk : ReadsN w (.slice a K.length kcap) K) (hkc : K.length ≤ kcap) (hkm : K.length ≤ maxLen) (ht : t.length ≤ maxLen) :
    Calls Try.prog 17 #[.pointer (some ⟨d, 0, none⟩), .agg #[.int .i64 what, .int .i64 i, .string (M.bs t), .slice a K.length kcap]] w fun e w' => e = .returned (.tuple #[.string (M.bs (doRT (kindI what) R i)), .int .i64 (doRE (kindI what) R i (t.take 300))]) ∧ Ref (fun j => Y j ∨ (w.heap.size ≤ j ∧ j < w'.heap.size)) w' d (doR (kindI what) R i (t.take 300) (K.take 9)) ∧ Keep (fun j => j ≠ d ∧ j < w.heap.size) w w' := by
  cases a with
  | none =>
    obtain rfl := readsN_nil hk
    exact done_none Y d R N what i t kcap [] w h g hN hX rfl ht
  | some ka => exact done_some Y d R N what i t ka kcap K w h g hN hX hk hkc hkm ht
/-- What both do, and answer, is the same. -/
theorem Sim.act {N : Nat} {S : St} {R : Rf} (h : Sim S R) (g : Good N S) (k i : Int) (t : M.Tx) (K : List Int) : Sim (doS k S i t K) (doR k R i t K) ∧ doRT k R i = doT k S i ∧ doRE k R i t = doE k S i t := by
  unfold doS doR doRT doT doRE doE
  repeat' split
  all_goals first
    | exact ⟨h, h.read i, h.check i⟩
    | exact ⟨h, rfl, rfl⟩
    | exact ⟨(h.sync g).1, rfl, (h.sync g).2⟩
    | exact ⟨h.fuseTo i K, rfl, rfl⟩
    | exact ⟨h.blowTo g K, rfl, rfl⟩
    | exact ⟨h.on, rfl, rfl⟩
    | exact ⟨(h.write g i t).1, rfl, (h.write g i t).2⟩
theorem Good.act {N : Nat} {S : St} (g : Good N S) (hN : N + 1 ≤ 1000) (k i : Int) (t : M.Tx) (K : List Int) (hi : i ≤ 9223372036854775807) (hK : K.length ≤ 1000) : Good (N + 1) (doS k S i t K) := by
  unfold doS
  have m := g.more (Nat.le_succ N) hN
  repeat' split
  all_goals first
    | exact m
    | exact g.sync hN
    | exact good_fuse m i K hi hK
    | exact m.blow K
    | exact m.on
    | exact g.write hN i t
theorem GoodR.act {N : Nat} {R : Rf} (g : GoodR N R) (hN : N + 1 ≤ 1000) (k i : Int) (t : M.Tx) (K : List Int) (hi : i ≤ 9223372036854775807) (hK : K.length ≤ 1000) : GoodR (N + 1) (doR k R i t K) := by
  unfold doR
  have m := g.more (Nat.le_succ N) hN
  repeat' split
  all_goals first
    | exact m
    | exact g.sync hN
    | exact m.fuseTo i K hi hK
    | exact m.blowTo K
    | exact m.on
    | exact g.write hN i t
set_option maxHeartbeats 8000000 in
theorem same_any (X Y : Nat → Prop) (d b : Nat) (S : St) (R : Rf) (N : Nat) (w : World) (hd : Dev X w d S) (hr : Ref Y w b R) (h : Sim S R) (g : Good N S) (gr : GoodR N R) (hY : ∀ j, Y j → j < w.heap.size) :
    Calls Try.prog 18 #[.pointer (some ⟨d, 0, none⟩), .pointer (some ⟨b, 0, none⟩)] w fun e w' => e = .returned (.bool true) ∧ Bel w w' := by
  have hrd : ∀ W, Bel w W → ∀ i, Calls Try.prog 19 #[.pointer (some ⟨d, 0, none⟩), .int .i64 i] W fun e w' => e = .returned (.tuple #[.string (M.bs (read S i)), .int .i64 (check S i)]) ∧ Bel W w' := fun W k i => read_any X d S N i W (hd.bel k) g
  have hrr : ∀ W, Bel w W → ∀ i, Calls Try.prog 32 #[.pointer (some ⟨b, 0, none⟩), .int .i64 i] W fun e w' => e = .returned (.tuple #[.string (M.bs (read S i)), .int .i64 (check S i)]) ∧ W = w' := fun W k i => by
    obtain ⟨lv, av, dv, qv, hr⟩ := hr
    rw [← h.read i, ← h.check i]
    exact rRead_any Y b R lv av dv qv i W (hr.kept (Keep.of_bel k hY)) (by have := gr.wait; have := gr.n; omega)
  have hcell : Hid (∀ W, Bel w W → (∃ aa acap, W.cell? ⟨b, 1, none⟩ = some (.slice aa S.wait.length acap)) ∧ (∃ la lcap, W.cell? ⟨b, 0, none⟩ = some (.slice la R.last.length lcap)) ∧ W.cell? ⟨b, 3, none⟩ = some (.bool S.off) ∧ W.cell? ⟨b, 6, none⟩ = some (.int .i64 S.done)) := fun W k => by
    obtain ⟨lv, av, dv, qv, hr⟩ := hr
    have hr := hr.kept (Keep.of_bel k hY)
    obtain ⟨aa, acap, rfl, _⟩ := id hr.at'
    obtain ⟨la, lcap, rfl, _⟩ := id hr.last
    have hl : R.at'.length = S.wait.length := by rw [h.at', List.length_map]
    exact ⟨⟨aa, acap, by rw [hr.blk.cell, ← hl]; rfl⟩, ⟨la, lcap, by rw [hr.blk.cell]; rfl⟩, by rw [hr.blk.cell, ← h.off]; rfl, by rw [hr.blk.cell, ← h.cmds]; rfl⟩
  have hop := open_any X d S w hd
  have hof : ∀ W, Bel w W → Calls Try.prog 24 #[.pointer (some ⟨d, 0, none⟩)] W fun e w' => e = .returned (.bool S.off) ∧ W = w' := fun W k => off_any X d S W (hd.bel k)
  have hsz : ∀ W, Bel w W → Calls Try.prog 23 #[.pointer (some ⟨d, 0, none⟩)] W fun e w' => e = .returned (.int .i64 (R.last.length : Nat)) ∧ W = w' := fun W k => by
    have := size_any X d S W (hd.bel k)
    rwa [h.size] at this
  have hn0 := gr.few
  clear h g gr hd hr hY
  generalize R.last.length = n at *
  go_enter Try.func18, Try.ntmps18
  go_wp2_with (go_at_call 22; refine hop.mono ?_; rintro e w1 ⟨rfl, k1⟩)
  obtain ⟨⟨aa, acap, c1⟩, ⟨la, lcap, c0⟩, c3, c6⟩ := hcell.out w1 k1
  have hof1 : ∀ m, Calls Try.prog 24 #[.pointer (some ⟨d, 0, none⟩)] (w1.drewN m) fun e w' => e = .returned (.bool S.off) ∧ w' = w1.drewN m := fun m => (hof (w1.drewN m) (below_drewN k1 m)).mono (fun e w' h => ⟨h.1, h.2.symm⟩)
  have hsz1 : ∀ m, Calls Try.prog 23 #[.pointer (some ⟨d, 0, none⟩)] (w1.drewN m) fun e w' => e = .returned (.int .i64 (n : Nat)) ∧ w' = w1.drewN m := fun m => (hsz (w1.drewN m) (below_drewN k1 m)).mono (fun e w' h => ⟨h.1, h.2.symm⟩)
  have hq0 : (S.off != S.off) = false := by simp
  have hq1 : ((S.wait.length : Int) != (S.wait.length : Int)) = false := by simp
  have hq2 : (S.done != S.done) = false := by simp
  have hq3 : ((n : Int) != (n : Int)) = false := by simp
  go_wp2_with fail
  go_quiet (first | (go_at_call 24; exact Calls.quiet_of_same (hof1 _)) | (go_at_call 23; exact Calls.quiet_of_same (hsz1 _)))
  rename_i nq
  have K2 : Hid (Bel w (w1.drewN nq)) := below_drewN k1 nq
  clear hof1 hsz1 hq0 hq1 hq2 hq3 c0 c1 c3 c6 k1 hof hsz hop
  generalize w1.drewN nq = w2 at *
  go_wp2_with fail
  go_loopw [7] (fun v wr => ∃ i : Int, -1 ≤ i ∧ i ≤ n + 1 ∧ v = .int .i64 i ∧ Hid (Bel w wr)) (fun v _ => ((n : Int) + 1 - intOf v).toNat)
  case atStart => exact ⟨-1, by omega, by omega, rfl, K2⟩
  case round =>
    obtain ⟨i, hi0, hi1, rfl, KR⟩ := hrel
    obtain ⟨_, ⟨la, lcap, c0⟩, _, _⟩ := hcell.out wr KR.out
    by_cases hlt : i ≤ n
    · have q1 : decide (i ≤ (n : Int)) = true := by simpa using hlt
      have HR := hid (hrd wr KR.out i)
      go_wp2_with (go_at_call 19; refine HR.out.mono ?_; rintro e w3 ⟨rfl, k3⟩)
      have K3 : Hid (Bel w w3) := KR.out.tr k3
      have HQ := hid (hrr w3 K3.out i)
      clear c0
      go_wp2_with (go_at_call 32; refine HQ.out.mono ?_; rintro e w4 ⟨rfl, rfl⟩)
      exact ⟨⟨i + 1, by omega, by omega, rfl, K3⟩, by simp [intOf]; omega⟩
    · have q1 : decide (i ≤ (n : Int)) = false := by simpa using hlt
      go_wp2_with fail
      go_ret
      exact ⟨rfl, KR.out⟩
end Go.Proofs.Ytoelaemneoabfaa
