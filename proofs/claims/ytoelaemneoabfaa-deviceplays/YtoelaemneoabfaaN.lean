/-
  The contract of the device's Sync, walked; two devices beside each other.
-/
import Derived.Test.YtoelaemneoabfaaK
namespace Go.Proofs.Ytoelaemneoabfaa
open Go.RowKit

def sync (S : St) : St := if S.off then S else if S.fuse = 1 then command S else settle (tick S) [1]
def syncE (S : St) : Int := if S.off then 7 else cmdE S
theorem Good.sync {N : Nat} {S : St} (g : Good N S) (h : N + 1 ≤ 1000) : Good (N + 1) (sync S) := by
  unfold Ytoelaemneoabfaa.sync
  split
  · exact g.more (by omega) h
  · split
    · exact g.command h
    · exact (g.tick h).settle _
theorem one_new (w : World) (a : Int) : ReadsN (w.alloc (.cells #[.int .i64 a] 3)) (.slice (some ⟨w.heap.size, 0, none⟩) 1 1) [a] := by
  refine ⟨_, 1, rfl, .inr ⟨_, _, rfl, fun j hj => ?_⟩⟩
  rw [(Blk.new w _ 3).cell]
  match j, hj with
  | 0, _ => rfl
set_option maxHeartbeats 1000000 in
theorem sync_any (X : Nat → Prop) (b : Nat) (S : St) (N : Nat) (w : World) (h : Dev X w b S) (g : Good N S) (hN : N + 1 ≤ 1000) :
    Calls Try.prog 14 #[.pointer (some ⟨b, 0, none⟩)] w fun e w' => e = .returned (.int .i64 (syncE S)) ∧ Dev X w' b (sync S) ∧ Keep X w w' := by
  obtain ⟨_, _, c4, _, _⟩ := h.cells
  cases ho : S.off with
  | true =>
    have HB : Hid (sync S = S ∧ syncE S = 7) := ⟨by simp [sync, ho], by simp [syncE, ho]⟩
    rw [ho] at c4
    have HD := hid h
    clear h g
    go_enter Try.func14, Try.ntmps14
    go_wp2_with fail
    go_ret
    exact ⟨by rw [HB.out.2]; rfl, by rw [HB.out.1]; exact HD.out, Keep.refl _ _⟩
  | false =>
    rw [ho] at c4
    have HM := command_any X b S N w h g
    by_cases hf : S.fuse = 1
    · have HB : Hid (sync S = command S ∧ syncE S = 7) := ⟨by simp [sync, ho, hf], by simp [syncE, ho, cmdE, hf]⟩
      rw [show cmdE S = 7 by simp [cmdE, hf]] at HM
      clear h g
      go_enter Try.func14, Try.ntmps14
      go_wp2_with (go_at_call 30; refine HM.mono ?_; rintro e w1 ⟨rfl, h1, k1⟩)
      go_ret
      exact ⟨by rw [HB.out.2]; rfl, by rw [HB.out.1]; exact h1, k1⟩
    · have HB : Hid (sync S = settle (tick S) [1] ∧ syncE S = 0) := ⟨by simp [sync, ho, hf], by simp [syncE, ho, cmdE, hf]⟩
      rw [show cmdE S = 0 by simp [cmdE, hf], show command S = tick S by simp [command, hf]] at HM
      have HG := hid (g.tick hN)
      clear h g
      go_enter Try.func14, Try.ntmps14
      go_wp2_with first
        | (go_at_call 30; refine HM.mono ?_; rintro e w1 ⟨rfl, h1, k1⟩; have bA : Bel w1 (w1.alloc (.cells #[.int .i64 1] 3)) := Bel.al (Below.refl _ _) _; have kA := Keep.of_bel bA h1.lt; have HS := settle_any X b (tick S) (N + 1) [1] _ _ (h1.bel bA) HG.out (one_new w1 1) (by simp); clear h1)
        | (go_at_call 31; refine HS.mono ?_; rintro e w2 ⟨rfl, h2, k2⟩)
      go_ret
      exact ⟨by rw [HB.out.2]; rfl, by rw [HB.out.1]; exact h2, (k1.tr kA).tr k2⟩

def Foot (b mb : Nat) (wv kv : Value) (j : Nat) : Prop := j = b ∨ j = mb ∨ wv.ownBlock = some j ∨ kv.ownBlock = some j
/-- Two devices that share nothing. -/
def Two (X : Nat → Prop) (w : World) (b : Nat) (S : St) (c : Nat) (T : St) : Prop := ∃ mb n wv kv mc m wv' kv',
  DevAt (fun j => X j ∨ Foot c mc wv' kv' j) w b S mb n wv kv ∧ DevAt (fun j => X j ∨ Foot b mb wv kv j) w c T mc m wv' kv'
theorem Two.symm {X : Nat → Prop} {w : World} {b : Nat} {S : St} {c : Nat} {T : St} (h : Two X w b S c T) : Two X w c T b S := by
  obtain ⟨mb, n, wv, kv, mc, m, wv', kv', h1, h2⟩ := h
  exact ⟨mc, m, wv', kv', mb, n, wv, kv, h2, h1⟩
theorem Two.bel {X : Nat → Prop} {w w' : World} {b : Nat} {S : St} {c : Nat} {T : St} (h : Two X w b S c T) (k : Bel w w') : Two X w' b S c T := by
  obtain ⟨mb, n, wv, kv, mc, m, wv', kv', h1, h2⟩ := h
  exact ⟨mb, n, wv, kv, mc, m, wv', kv', h1.bel k, h2.bel k⟩
theorem Two.fst {X : Nat → Prop} {w : World} {b : Nat} {S : St} {c : Nat} {T : St} (h : Two X w b S c T) : Dev X w b S := by
  obtain ⟨mb, n, wv, kv, mc, m, wv', kv', h1, h2⟩ := h
  exact Dev.weak ⟨mb, n, wv, kv, h1⟩ (fun _ h => .inl h)
/-- The first one turns: the other one stands. -/
theorem Two.left {X : Nat → Prop} {w : World} {b : Nat} {S : St} {c : Nat} {T : St} (h : Two X w b S c T) : ∃ Y : Nat → Prop, Dev Y w b S ∧ ∀ w' S', Dev Y w' b S' → Keep Y w w' → Two X w' b S' c T ∧ Keep X w w' := by
  obtain ⟨mb, n, wv, kv, mc, m, wv', kv', h1, h2⟩ := h
  refine ⟨_, ⟨mb, n, wv, kv, h1⟩, ?_⟩
  rintro w' S' ⟨mb2, n2, wv2, kv2, h3⟩ k
  have hlt : ∀ j, X j → j < w'.heap.size := fun j hj => h3.lt j (.inl hj)
  refine ⟨⟨mb2, n2, wv2, kv2, mc, m, wv', kv', h3, ?_⟩, k.weak (fun _ h => .inl h)⟩
  have hb : Blk w' c _ 61 := (k.block c (.inr (.inl rfl))).trans h2.blk
  refine ⟨hb, h2.map.same (k.block mc (.inr (.inr (.inl rfl)))), h2.room, row_keep h2.wait k (fun g hg => .inr (.inr (.inr (.inl hg)))), row_keep h2.keep k (fun g hg => .inr (.inr (.inr (.inr hg)))), ?_, ?_, ?_, ?_, ?_⟩
  · rintro (hx | rfl | rfl | hx | hx)
    · exact h2.xb (.inl hx)
    · exact h3.xb (.inr (.inl rfl))
    · exact h3.xm (.inr (.inl rfl))
    · exact h3.xw c hx (.inr (.inl rfl))
    · exact h3.xk c hx (.inr (.inl rfl))
  · rintro (hx | rfl | rfl | hx | hx)
    · exact h2.xm (.inl hx)
    · exact h3.xb (.inr (.inr (.inl rfl)))
    · exact h3.xm (.inr (.inr (.inl rfl)))
    · exact h3.xw mc hx (.inr (.inr (.inl rfl)))
    · exact h3.xk mc hx (.inr (.inr (.inl rfl)))
  · rintro g hg (hx | rfl | rfl | hx | hx)
    · exact h2.xw g hg (.inl hx)
    · exact h3.xb (.inr (.inr (.inr (.inl hg))))
    · exact h3.xm (.inr (.inr (.inr (.inl hg))))
    · exact h3.xw g hx (.inr (.inr (.inr (.inl hg))))
    · exact h3.xk g hx (.inr (.inr (.inr (.inl hg))))
  · rintro g hg (hx | rfl | rfl | hx | hx)
    · exact h2.xk g hg (.inl hx)
    · exact h3.xb (.inr (.inr (.inr (.inr hg))))
    · exact h3.xm (.inr (.inr (.inr (.inr hg))))
    · exact h3.xw g hx (.inr (.inr (.inr (.inr hg))))
    · exact h3.xk g hx (.inr (.inr (.inr (.inr hg))))
  · rintro j (hx | rfl | rfl | hx | hx)
    · exact hlt j hx
    · exact h3.blk.lt
    · exact h3.map.lt
    · exact (h3.wait.lt j hx).2
    · exact (h3.keep.lt j hx).2
/-- A new one beside one that is there. -/
theorem Two.new {X : Nat → Prop} {w w' : World} {b : Nat} {S : St} {c : Nat} {T : St} (h : Dev X w b S) (k : Bel w w') (h' : Dev (fun j => j < w.heap.size) w' c T) : Two X w' b S c T := by
  obtain ⟨mb, n, wv, kv, h⟩ := h
  obtain ⟨mc, m, wv', kv', h'⟩ := h'
  have hf : ∀ j, Foot b mb wv kv j → j < w.heap.size := by
    rintro j (rfl | rfl | hx | hx)
    · exact h.blk.lt
    · exact h.map.lt
    · exact (h.wait.lt j hx).2
    · exact (h.keep.lt j hx).2
  have hf' : ∀ j, Foot c mc wv' kv' j → ¬ j < w.heap.size := by
    rintro j (rfl | rfl | hx | hx)
    · exact h'.xb
    · exact h'.xm
    · exact h'.xw j hx
    · exact h'.xk j hx
  have hl' : ∀ j, Foot c mc wv' kv' j → j < w'.heap.size := by
    rintro j (rfl | rfl | hx | hx)
    · exact h'.blk.lt
    · exact h'.map.lt
    · exact (h'.wait.lt j hx).2
    · exact (h'.keep.lt j hx).2
  have hd := h.bel k
  refine ⟨mb, n, wv, kv, mc, m, wv', kv', ⟨hd.blk, hd.map, hd.room, hd.wait, hd.keep, ?_, ?_, ?_, ?_, ?_⟩, ⟨h'.blk, h'.map, h'.room, h'.wait, h'.keep, ?_, ?_, ?_, ?_, ?_⟩⟩
  · rintro (hx | hx)
    · exact h.xb hx
    · exact hf' _ hx (hf _ (.inl rfl))
  · rintro (hx | hx)
    · exact h.xm hx
    · exact hf' _ hx (hf _ (.inr (.inl rfl)))
  · rintro g hg (hx | hx)
    · exact h.xw g hg hx
    · exact hf' _ hx (hf _ (.inr (.inr (.inl hg))))
  · rintro g hg (hx | hx)
    · exact h.xk g hg hx
    · exact hf' _ hx (hf _ (.inr (.inr (.inr hg))))
  · rintro j (hx | hx)
    · exact hd.lt j hx
    · exact hl' j hx
  · rintro (hx | hx)
    · exact h'.xb (h.lt _ hx)
    · exact h'.xb (hf _ hx)
  · rintro (hx | hx)
    · exact h'.xm (h.lt _ hx)
    · exact h'.xm (hf _ hx)
  · rintro g hg (hx | hx)
    · exact h'.xw g hg (h.lt _ hx)
    · exact h'.xw g hg (hf _ hx)
  · rintro g hg (hx | hx)
    · exact h'.xk g hg (h.lt _ hx)
    · exact h'.xk g hg (hf _ hx)
  · rintro j (hx | hx)
    · exact hd.lt j hx
    · exact Nat.lt_of_lt_of_le (hf j hx) k.size
theorem Two.writeL {X : Nat → Prop} {w : World} {b : Nat} {S : St} {c : Nat} {T : St} (h : Two X w b S c T) (N : Nat) (i : Int) (t : M.Tx) (g : Good N S) (hN : N + 1 ≤ 1000) :
    Calls Try.prog 13 #[.pointer (some ⟨b, 0, none⟩), .int .i64 i, .string (M.bs t)] w fun e w' => e = .returned (.int .i64 (writeE S i t)) ∧ Two X w' b (write S i t) c T ∧ Keep X w w' := by
  obtain ⟨Y, hd, hs⟩ := h.left
  refine (write_any Y b S N i t w hd g hN).mono ?_
  rintro e w' ⟨rfl, h', k'⟩
  exact ⟨rfl, hs _ _ h' k'⟩
theorem Two.writeR {X : Nat → Prop} {w : World} {b : Nat} {S : St} {c : Nat} {T : St} (h : Two X w c T b S) (N : Nat) (i : Int) (t : M.Tx) (g : Good N S) (hN : N + 1 ≤ 1000) :
    Calls Try.prog 13 #[.pointer (some ⟨b, 0, none⟩), .int .i64 i, .string (M.bs t)] w fun e w' => e = .returned (.int .i64 (writeE S i t)) ∧ Two X w' c T b (write S i t) ∧ Keep X w w' := by
  refine (h.symm.writeL N i t g hN).mono ?_
  rintro e w' ⟨rfl, h', k'⟩
  exact ⟨rfl, h'.symm, k'⟩
theorem Two.syncL {X : Nat → Prop} {w : World} {b : Nat} {S : St} {c : Nat} {T : St} (h : Two X w b S c T) (N : Nat)  (g : Good N S) (hN : N + 1 ≤ 1000) :
    Calls Try.prog 14 #[.pointer (some ⟨b, 0, none⟩)] w fun e w' => e = .returned (.int .i64 (syncE S)) ∧ Two X w' b (sync S) c T ∧ Keep X w w' := by
  obtain ⟨Y, hd, hs⟩ := h.left
  refine (sync_any Y b S N w hd g hN).mono ?_
  rintro e w' ⟨rfl, h', k'⟩
  exact ⟨rfl, hs _ _ h' k'⟩
theorem Two.syncR {X : Nat → Prop} {w : World} {b : Nat} {S : St} {c : Nat} {T : St} (h : Two X w c T b S) (N : Nat)  (g : Good N S) (hN : N + 1 ≤ 1000) :
    Calls Try.prog 14 #[.pointer (some ⟨b, 0, none⟩)] w fun e w' => e = .returned (.int .i64 (syncE S)) ∧ Two X w' c T b (sync S) ∧ Keep X w w' := by
  refine (h.symm.syncL N  g hN).mono ?_
  rintro e w' ⟨rfl, h', k'⟩
  exact ⟨rfl, h'.symm, k'⟩
theorem Two.blowL {X : Nat → Prop} {w : World} {b : Nat} {S : St} {c : Nat} {T : St} (h : Two X w b S c T) (N : Nat) (K : List Int) (kv : Value) (g : Good N S) (hk : ReadsN w kv K) (hK : K.length ≤ 1000) :
    Calls Try.prog 15 #[.pointer (some ⟨b, 0, none⟩), kv] w fun e w' => e = .returned (.tuple #[]) ∧ Two X w' b (blow S K) c T ∧ Keep X w w' := by
  obtain ⟨Y, hd, hs⟩ := h.left
  refine (blow_any Y b S N K kv w hd g hk hK).mono ?_
  rintro e w' ⟨rfl, h', k'⟩
  exact ⟨rfl, hs _ _ h' k'⟩
theorem Two.blowR {X : Nat → Prop} {w : World} {b : Nat} {S : St} {c : Nat} {T : St} (h : Two X w c T b S) (N : Nat) (K : List Int) (kv : Value) (g : Good N S) (hk : ReadsN w kv K) (hK : K.length ≤ 1000) :
    Calls Try.prog 15 #[.pointer (some ⟨b, 0, none⟩), kv] w fun e w' => e = .returned (.tuple #[]) ∧ Two X w' c T b (blow S K) ∧ Keep X w w' := by
  refine (h.symm.blowL N K kv g hk hK).mono ?_
  rintro e w' ⟨rfl, h', k'⟩
  exact ⟨rfl, h'.symm, k'⟩
theorem Two.onL {X : Nat → Prop} {w : World} {b : Nat} {S : St} {c : Nat} {T : St} (h : Two X w b S c T)    :
    Calls Try.prog 20 #[.pointer (some ⟨b, 0, none⟩)] w fun e w' => e = .returned (.tuple #[]) ∧ Two X w' b (on S) c T ∧ Keep X w w' := by
  obtain ⟨Y, hd, hs⟩ := h.left
  refine (on_any Y b S w hd).mono ?_
  rintro e w' ⟨rfl, h', k'⟩
  exact ⟨rfl, hs _ _ h' k'⟩
theorem Two.onR {X : Nat → Prop} {w : World} {b : Nat} {S : St} {c : Nat} {T : St} (h : Two X w c T b S)    :
    Calls Try.prog 20 #[.pointer (some ⟨b, 0, none⟩)] w fun e w' => e = .returned (.tuple #[]) ∧ Two X w' c T b (on S) ∧ Keep X w w' := by
  refine (h.symm.onL   ).mono ?_
  rintro e w' ⟨rfl, h', k'⟩
  exact ⟨rfl, h'.symm, k'⟩
end Go.Proofs.Ytoelaemneoabfaa
