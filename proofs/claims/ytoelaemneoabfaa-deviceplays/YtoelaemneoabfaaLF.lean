/-
  The law DeviceFuses, walked.
-/
import Derived.Test.YtoelaemneoabfaaOA
import Derived.Test.YtoelaemneoabfaaLT
namespace Go.Proofs.Ytoelaemneoabfaa
open Go.RowKit

def kindI (x : Int) : Int := (Int.tmod x 9 + 9) % 9
set_option maxHeartbeats 1000000 in
theorem kind_any (x y : Int) (t : ByteArray) (kv : Value) (a : Option Addr) (n c : Nat) (hk : kv = .slice a n c) (w : World) : Calls Try.prog 11 #[.agg #[.int .i64 x, .int .i64 y, .string t, kv]] w fun e w' => e = .returned (.int .i64 (kindI x)) ∧ Bel w w' := by
  subst hk
  have h1 : -9 < Int.tmod x 9 := Int.lt_tmod_of_pos x (by omega)
  have h2 : Int.tmod x 9 < 9 := Int.tmod_lt_of_pos x (by omega)
  have HK : Hid (kindI x = (Int.tmod x 9 + 9) % 9) := rfl
  go_enter Try.func11, Try.ntmps11
  go_wp2_with fail
  go_ret
  exact ⟨by rw [HK.out]; rfl, Bel.al (Below.refl _ _) _⟩
theorem Two.more {X : Nat → Prop} {w w' : World} {b : Nat} {S : St} {c : Nat} {T : St} (h : Two X w b S c T) (k : Bel w w') : Two (fun j => X j ∨ (w.heap.size ≤ j ∧ j < w'.heap.size)) w' b S c T := by
  obtain ⟨mb, n, wv, kv, mc, m, wv', kv', h1, h2⟩ := h
  have hk := k.size
  have add : ∀ {Y : Nat → Prop} {b : Nat} {S : St} {mb n : Nat} {wv kv : Value}, DevAt (fun j => X j ∨ Y j) w b S mb n wv kv → DevAt (fun j => (X j ∨ (w.heap.size ≤ j ∧ j < w'.heap.size)) ∨ Y j) w' b S mb n wv kv := by
    intro Y b S mb n wv kv h
    have hd := h.bel k
    refine ⟨hd.blk, hd.map, hd.room, hd.wait, hd.keep, ?_, ?_, ?_, ?_, ?_⟩
    · rintro ((hx | ⟨hx, _⟩) | hx)
      · exact h.xb (.inl hx)
      · have := h.blk.lt; omega
      · exact h.xb (.inr hx)
    · rintro ((hx | ⟨hx, _⟩) | hx)
      · exact h.xm (.inl hx)
      · have := h.map.lt; omega
      · exact h.xm (.inr hx)
    · rintro g hg ((hx | ⟨hx, _⟩) | hx)
      · exact h.xw g hg (.inl hx)
      · have := (h.wait.lt g hg).2; omega
      · exact h.xw g hg (.inr hx)
    · rintro g hg ((hx | ⟨hx, _⟩) | hx)
      · exact h.xk g hg (.inl hx)
      · have := (h.keep.lt g hg).2; omega
      · exact h.xk g hg (.inr hx)
    · rintro j ((hx | ⟨_, hx⟩) | hx)
      · have := h.lt j (.inl hx); omega
      · exact hx
      · have := h.lt j (.inr hx); omega
  exact ⟨mb, n, wv, kv, mc, m, wv', kv', add h1, add h2⟩
/-- How the two devices stand behind m commands, the one with a fuse of n, the other one to be blown ahead of its n-th. -/
structure Rel (n : Nat) (K : List Int) (m : Nat) (Sd Sc : St) : Prop where
  good : Good m Sd ∧ Good m Sc
  size : Sd.size = 4 ∧ Sc.size = 4
  pre : m < n → Sd = { Sc with fuse := (n : Int) - m, keep := K } ∧ Sc.off = false ∧ Sc.fuse = 0
  post : n ≤ m → Sd.off = true ∧ Sc.off = true ∧ Sd.fin = Sc.fin ∧ Sd.wait = [] ∧ Sc.wait = []
def ahead (n m : Nat) (K : List Int) (Sc : St) : St := if m + 1 = n then blow Sc K else Sc
theorem rel_sync {n m : Nat} {K : List Int} {Sd Sc : St} (h : Rel n K m Sd Sc) (hm : m + 1 ≤ 1000) :
    syncE Sd = syncE (ahead n m K Sc) ∧ Rel n K (m + 1) (sync Sd) (sync (ahead n m K Sc)) ∧ (sync Sd).off = decide (n ≤ m + 1) ∧ (sync (ahead n m K Sc)).off = decide (n ≤ m + 1) := by
  have gd := h.good.1.sync hm
  have gc : Good (m + 1) (sync (ahead n m K Sc)) := by
    unfold ahead
    split
    · exact (h.good.2.blow K).sync hm
    · exact h.good.2.sync hm
  by_cases h1 : m + 1 < n
  · obtain ⟨e, ho, hf⟩ := h.pre (by omega)
    have ha : ahead n m K Sc = Sc := if_neg (by omega)
    rw [ha] at gc ⊢
    have hne : ¬ ((n : Int) - m = 1) := by omega
    have hgt : (1 : Int) < (n : Int) - m := by omega
    have e1 : sync Sd = { sync Sc with fuse := (n : Int) - (m + 1 : Nat), keep := K } := by
      subst e
      simp [sync, ho, hf, hne, tick, hgt, settle]
      omega
    refine ⟨?_, ⟨⟨gd, gc⟩, ?_, fun _ => ⟨e1, ?_, ?_⟩, fun hh => by omega⟩, ?_, ?_⟩
    · subst e; simp [syncE, ho, cmdE, hf, hne]
    · rw [e1]; simp [sync, ho, hf, tick, settle]; exact h.size.2
    · simp [sync, ho, hf, tick, settle]
    · simp [sync, ho, hf, tick, settle]
    · rw [e1]; simp [sync, ho, hf, tick, settle]; omega
    · simp [sync, ho, hf, tick, settle]; omega
  · by_cases h2 : m + 1 = n
    · obtain ⟨e, ho, hf⟩ := h.pre (by omega)
      have ha : ahead n m K Sc = blow Sc K := if_pos h2
      rw [ha] at gc ⊢
      have he1 : ((n : Int) - m) = 1 := by omega
      have hb : (blow Sc K).off = true := by simp [blow, ho]
      have ec : sync (blow Sc K) = blow Sc K := by unfold sync; rw [if_pos hb]
      have ed : sync Sd = { blow Sc K with fuse := 1, keep := K } := by
        subst e
        simp [sync, ho, he1, command, blow, settle]
      rw [ec] at gc ⊢
      refine ⟨?_, ⟨⟨gd, gc⟩, ?_, fun hh => by omega, fun _ => ⟨?_, hb, ?_, ?_, ?_⟩⟩, ?_, ?_⟩
      · subst e; simp [syncE, ho, cmdE, he1, hb]
      · rw [ed]; simp [blow, ho, settle]; exact h.size.2
      · rw [ed]; exact hb
      · rw [ed]
      · rw [ed]; simp [blow, ho, settle]
      · simp [blow, ho, settle]
      · rw [ed, decide_eq_true (by omega)]; exact hb
      · rw [decide_eq_true (by omega)]; exact hb
    · obtain ⟨od, oc, hf, hwd, hwc⟩ := h.post (by omega)
      have ha : ahead n m K Sc = Sc := if_neg h2
      rw [ha] at gc ⊢
      have ed : sync Sd = Sd := by unfold sync; rw [if_pos od]
      have ec : sync Sc = Sc := by unfold sync; rw [if_pos oc]
      rw [ec] at gc ⊢
      rw [ed] at gd ⊢
      exact ⟨by simp [syncE, od, oc], ⟨⟨gd, gc⟩, h.size, fun hh => by omega, fun _ => ⟨od, oc, hf, hwd, hwc⟩⟩, by rw [od, decide_eq_true (by omega)], by rw [oc, decide_eq_true (by omega)]⟩
theorem rel_write {n m : Nat} {K : List Int} {Sd Sc : St} (h : Rel n K m Sd Sc) (hm : m + 1 ≤ 1000) (r : Int) (t : M.Tx) (h0 : 0 ≤ r) (h3 : r ≤ 3) (ht : t.length ≤ 256) :
    writeE Sd r t = writeE (ahead n m K Sc) r t ∧ Rel n K (m + 1) (write Sd r t) (write (ahead n m K Sc) r t) ∧ (write Sd r t).off = decide (n ≤ m + 1) ∧ (write (ahead n m K Sc) r t).off = decide (n ≤ m + 1) := by
  have gd := h.good.1.write hm r t
  have gc : Good (m + 1) (write (ahead n m K Sc) r t) := by
    unfold ahead
    split
    · exact (h.good.2.blow K).write hm r t
    · exact h.good.2.write hm r t
  have hl : ¬ 256 < t.length := by omega
  have ck : ∀ S : St, S.size = 4 → S.off = false → check S r = 0 := fun S hs ho => by simp [check, hs, ho]; omega
  have co : ∀ S : St, S.off = true → check S r = 7 := fun S ho => by simp [check, ho]
  by_cases h1 : m + 1 < n
  · obtain ⟨e, ho, hf⟩ := h.pre (by omega)
    have ha : ahead n m K Sc = Sc := if_neg (by omega)
    rw [ha] at gc ⊢
    have hne : ¬ ((n : Int) - m = 1) := by omega
    have hgt : (1 : Int) < (n : Int) - m := by omega
    have kc := ck Sc h.size.2 ho
    have kd := ck Sd h.size.1 (by rw [e]; exact ho)
    have ec : write Sc r t = { tick Sc with wait := Sc.wait ++ [(r, t)] } := by simp [write, kc, hl, hf]
    have ed : write Sd r t = { tick Sd with wait := Sd.wait ++ [(r, t)] } := by
      have : ¬ Sd.fuse = 1 := by rw [e]; exact hne
      simp [write, kd, hl, this]
    have e1 : write Sd r t = { write Sc r t with fuse := (n : Int) - (m + 1 : Nat), keep := K } := by
      rw [ec, ed]
      subst e
      simp [tick, hgt]
      omega
    refine ⟨?_, ⟨⟨gd, gc⟩, ?_, fun _ => ⟨e1, ?_, ?_⟩, fun hh => by omega⟩, ?_, ?_⟩
    · have : ¬ Sd.fuse = 1 := by rw [e]; exact hne
      simp [writeE, kc, kd, hl, cmdE, hf, this]
    · rw [e1, ec]; simp [tick]; exact h.size.2
    · rw [ec]; simp [tick, ho]
    · rw [ec]; simp [tick, hf]
    · rw [e1, ec]; simp [tick, ho]; omega
    · rw [ec]; simp [tick, ho]; omega
  · by_cases h2 : m + 1 = n
    · obtain ⟨e, ho, hf⟩ := h.pre (by omega)
      have ha : ahead n m K Sc = blow Sc K := if_pos h2
      rw [ha] at gc ⊢
      have he1 : ((n : Int) - m) = 1 := by omega
      have hb : (blow Sc K).off = true := by simp [blow, ho]
      have kd := ck Sd h.size.1 (by rw [e]; exact ho)
      have hfd : Sd.fuse = 1 := by rw [e]; exact he1
      have ec : write (blow Sc K) r t = blow Sc K := by simp [write, co _ hb]
      have ed : write Sd r t = { blow Sc K with fuse := 1, keep := K } := by
        have : write Sd r t = command Sd := by simp [write, kd, hl, hfd]
        rw [this]
        subst e
        simp [ho, he1, command, blow, settle]
      rw [ec] at gc ⊢
      refine ⟨?_, ⟨⟨gd, gc⟩, ?_, fun hh => by omega, fun _ => ⟨?_, hb, ?_, ?_, ?_⟩⟩, ?_, ?_⟩
      · simp [writeE, kd, hl, cmdE, hfd, co _ hb]
      · rw [ed]; simp [blow, ho, settle]; exact h.size.2
      · rw [ed]; exact hb
      · rw [ed]
      · rw [ed]; simp [blow, ho, settle]
      · simp [blow, ho, settle]
      · rw [ed, decide_eq_true (by omega)]; exact hb
      · rw [decide_eq_true (by omega)]; exact hb
    · obtain ⟨od, oc, hf, hwd, hwc⟩ := h.post (by omega)
      have ha : ahead n m K Sc = Sc := if_neg h2
      rw [ha] at gc ⊢
      have ed : write Sd r t = Sd := by simp [write, co _ od]
      have ec : write Sc r t = Sc := by simp [write, co _ oc]
      rw [ec] at gc ⊢
      rw [ed] at gd ⊢
      exact ⟨by simp [writeE, co _ od, co _ oc], ⟨⟨gd, gc⟩, h.size, fun hh => by omega, fun _ => ⟨od, oc, hf, hwd, hwc⟩⟩, by rw [od, decide_eq_true (by omega)], by rw [oc, decide_eq_true (by omega)]⟩
/-- Behind it, on again, they read alike. -/
theorem rel_reads {n m : Nat} {K : List Int} {Sd Sc : St} (h : Rel n K m Sd Sc) (i : Int) : read (on Sd) i = read (on Sc) i ∧ check (on Sd) i = check (on Sc) i := by
  by_cases h1 : m < n
  · obtain ⟨e, ho, hf⟩ := h.pre h1
    subst e
    exact ⟨rfl, rfl⟩
  · obtain ⟨od, oc, hf, hwd, hwc⟩ := h.post (by omega)
    simp [read, check, on, hf, hwd, hwc, h.size.1, h.size.2]
end Go.Proofs.Ytoelaemneoabfaa
