/-
  The law DeviceLasts: what its devices hold.
-/
import Derived.Test.YtoelaemneoabfaaLF
import Derived.Deep.RegionHeld3
namespace Go.Proofs.Ytoelaemneoabfaa
open Go.RowKit

theorem stl_all (F : Int → M.Wr) (L : List M.Wr) (i : Int) : ∀ m, m ≤ L.length → stl F [1] L m i = M.lastW (L.take m) i (F i)
  | 0, _ => by simp [stl, M.lastW]
  | m + 1, h => by
    have hm : m < L.length := by omega
    have ht : taken [1] m = true := by simp [taken, Nat.mod_one]
    rw [List.take_succ_eq_append_getElem hm, M.lastW_snoc]
    unfold stl
    rw [if_pos ht]
    unfold put
    simp only [List.getElem?_eq_getElem hm, Option.getD_some]
    by_cases e : i = L[m].1
    · rw [if_pos e, if_pos e.symm]
    · rw [if_neg e, if_neg (fun h => e h.symm)]
      exact stl_all F L i m (by omega)
theorem stl_none (F : Int → M.Wr) (K : List Int) (L : List M.Wr) (i : Int) (hn : ∀ x ∈ L, x.1 ≠ i) : ∀ m, m ≤ L.length → stl F K L m i = F i
  | 0, _ => rfl
  | m + 1, h => by
    have hm : m < L.length := by omega
    unfold stl
    split
    · unfold put
      simp only [List.getElem?_eq_getElem hm, Option.getD_some]
      rw [if_neg (fun e => hn _ (List.getElem_mem hm) e.symm)]
      exact stl_none F K L i hn m (by omega)
    · exact stl_none F K L i hn m (by omega)
/-- A device that is on, and has no fuse. -/
structure Plain (N : Nat) (S : St) : Prop where
  good : Good N S
  size : S.size = 4
  off : S.off = false
  fuse : S.fuse = 0
theorem plain_new : Plain 0 (new 4) := ⟨good_new 4 (by omega) (by omega), rfl, rfl, rfl⟩
theorem Plain.check {N : Nat} {S : St} (h : Plain N S) (i : Int) (h0 : 0 ≤ i) (h4 : i < 4) : check S i = 0 := by
  have := h.size; have := h.off
  unfold Ytoelaemneoabfaa.check
  rw [if_neg (by simp [h.off]), if_neg (by rw [h.size]; omega)]
theorem plain_write {N : Nat} {S : St} (h : Plain N S) (hN : N + 1 ≤ 1000) (i : Int) (t : M.Tx) (h0 : 0 ≤ i) (h3 : i ≤ 3) (ht : t.length ≤ 256) :
    Plain (N + 1) (write S i t) ∧ (write S i t).wait = S.wait ++ [(i, t)] ∧ (write S i t).fin = S.fin := by
  have hc := h.check i h0 (by omega)
  have e : write S i t = { tick S with wait := S.wait ++ [(i, t)] } := by simp [write, hc, show ¬ 256 < t.length by omega, h.fuse]
  refine ⟨⟨h.good.write hN i t, ?_, ?_, ?_⟩, ?_, ?_⟩
  · rw [e]; simp [tick, h.size]
  · rw [e]; simp [tick, h.off]
  · rw [e]; simp [tick, h.fuse]
  · rw [e]
  · rw [e]; simp [tick]
theorem plain_sync {N : Nat} {S : St} (h : Plain N S) (hN : N + 1 ≤ 1000) : Plain (N + 1) (sync S) ∧ (sync S).wait = [] := by
  have e : sync S = settle (tick S) [1] := by simp [sync, h.off, h.fuse]
  refine ⟨⟨h.good.sync hN, ?_, ?_, ?_⟩, ?_⟩
  · rw [e]; simp [tick, settle, h.size]
  · rw [e]; simp [tick, settle, h.off]
  · rw [e]; simp [tick, settle, h.fuse]
  · rw [e]; simp [settle]
/-- Behind a cut, on again: what is read. -/
theorem plain_cut {N : Nat} {S : St} (h : Plain N S) (K : List Int) (i : Int) (h0 : 0 ≤ i) (h4 : i < 4) : read (on (blow S K)) i = pad (stl S.fin K S.wait S.wait.length i).2 := by
  have e : on (blow S K) = { settle S K with off := false, fuse := 0, keep := [] } := by simp [on, blow, h.off, settle]
  rw [e]
  have hs := h.size
  have hc : check { settle S K with off := false, fuse := 0, keep := [] } i = 0 := by simp [Ytoelaemneoabfaa.check, settle, hs]; omega
  unfold read
  rw [if_pos hc]
  simp [settle, M.lastW]
theorem plain_read {N : Nat} {S : St} (h : Plain N S) (i : Int) (h0 : 0 ≤ i) (h4 : i < 4) : read S i = pad (M.lastW S.wait i (S.fin i)).2 := by
  unfold read
  rw [if_pos (h.check i h0 h4)]
theorem plain_kept {N : Nat} {S : St} (h : Plain N S) (i : Int) (h0 : 0 ≤ i) (h4 : i < 4) : read (on (blow S [1])) i = read S i := by
  rw [plain_cut h [1] i h0 h4, plain_read h i h0 h4, stl_all _ _ _ _ (Nat.le_refl _), List.take_length]
theorem plain_lasts {N N' : Nat} {S T : St} (h : Plain N S) (hT : Plain N' T) (hw : S.wait = []) (hf : T.fin = S.fin) (K : List Int) (i : Int) (h0 : 0 ≤ i) (h4 : i < 4) (hn : ∀ x ∈ T.wait, x.1 ≠ i) : read (on (blow T K)) i = read S i := by
  rw [plain_cut hT K i h0 h4, plain_read h i h0 h4, stl_none _ _ _ _ hn _ (Nat.le_refl _), hw, hf]
  simp [M.lastW]
theorem DevAt.away {X : Nat → Prop} {w w' : World} {b : Nat} {S : St} {mb n : Nat} {wv kv : Value} {B : Nat} (h : DevAt X w b S mb n wv kv) (k : Keep (fun j => j ≠ B) w w') (hX : X B) : DevAt X w' b S mb n wv kv :=
  ⟨(k.block b (fun e => h.xb (by rw [e]; exact hX))).trans h.blk, h.map.same (k.block mb (fun e => h.xm (by rw [e]; exact hX))), h.room, row_keep h.wait k (fun g hg e => h.xw g hg (by rw [e]; exact hX)), row_keep h.keep k (fun g hg e => h.xk g hg (by rw [e]; exact hX)), h.xb, h.xm, h.xw, h.xk, fun j hj => Nat.lt_of_lt_of_le (h.lt j hj) k.size⟩
theorem Dev.away {X : Nat → Prop} {w w' : World} {b : Nat} {S : St} {B : Nat} (h : Dev X w b S) (k : Keep (fun j => j ≠ B) w w') (hX : X B) : Dev X w' b S := by
  obtain ⟨mb, n, wv, kv, h⟩ := h
  exact ⟨mb, n, wv, kv, h.away k hX⟩
theorem Two.away {X : Nat → Prop} {w w' : World} {b : Nat} {S : St} {c : Nat} {T : St} {B : Nat} (h : Two X w b S c T) (k : Keep (fun j => j ≠ B) w w') (hX : X B) : Two X w' b S c T := by
  obtain ⟨mb, n, wv, kv, mc, m, wv', kv', h1, h2⟩ := h
  exact ⟨mb, n, wv, kv, mc, m, wv', kv', h1.away k (.inl hX), h2.away k (.inl hX)⟩
theorem Dev.box {X : Nat → Prop} {w : World} {b : Nat} {S : St} (h : Dev X w b S) (o : Obj) : Dev (fun j => X j ∨ j = w.heap.size) (w.alloc o) b S := by
  obtain ⟨mb, n, wv, kv, h⟩ := h
  have hd := h.bel (Bel.al (Below.refl _ _) o)
  refine ⟨mb, n, wv, kv, hd.blk, hd.map, hd.room, hd.wait, hd.keep, ?_, ?_, ?_, ?_, ?_⟩
  · rintro (hx | hx)
    · exact h.xb hx
    · have := h.blk.lt; omega
  · rintro (hx | hx)
    · exact h.xm hx
    · have := h.map.lt; omega
  · rintro g hg (hx | hx)
    · exact h.xw g hg hx
    · have := (h.wait.lt g hg).2; omega
  · rintro g hg (hx | hx)
    · exact h.xk g hg hx
    · have := (h.keep.lt g hg).2; omega
  · rintro j (hx | hx)
    · exact hd.lt j hx
    · simp; omega
theorem Two.box {X : Nat → Prop} {w : World} {b : Nat} {S : St} {c : Nat} {T : St} (h : Two X w b S c T) (o : Obj) : Two (fun j => X j ∨ j = w.heap.size) (w.alloc o) b S c T := by
  obtain ⟨mb, n, wv, kv, mc, m, wv', kv', h1, h2⟩ := h.more (Bel.al (Below.refl _ _) o)
  have hs : ∀ (Y : Nat → Prop) j, ((X j ∨ j = w.heap.size) ∨ Y j) → ((X j ∨ (w.heap.size ≤ j ∧ j < (w.alloc o).heap.size)) ∨ Y j) := fun Y j h => by
    rcases h with (h | h) | h
    · exact .inl (.inl h)
    · exact .inl (.inr ⟨by omega, by simp; omega⟩)
    · exact .inr h
  have wk : ∀ {Y : Nat → Prop} {b : Nat} {S : St} {mb n : Nat} {wv kv : Value}, DevAt (fun j => (X j ∨ (w.heap.size ≤ j ∧ j < (w.alloc o).heap.size)) ∨ Y j) (w.alloc o) b S mb n wv kv → DevAt (fun j => (X j ∨ j = w.heap.size) ∨ Y j) (w.alloc o) b S mb n wv kv := fun h =>
    ⟨h.blk, h.map, h.room, h.wait, h.keep, fun hy => h.xb (hs _ _ hy), fun hy => h.xm (hs _ _ hy), fun g hg hy => h.xw g hg (hs _ _ hy), fun g hg hy => h.xk g hg (hs _ _ hy), fun k hk => h.lt k (hs _ k hk)⟩
  exact ⟨mb, n, wv, kv, mc, m, wv', kv', wk h1, wk h2⟩
/-- Four cells, the first q of them set. -/
def arr (f : Nat → Value) (z : Value) (q : Nat) : Array Value := #[if 0 < q then f 0 else z, if 1 < q then f 1 else z, if 2 < q then f 2 else z, if 3 < q then f 3 else z]
theorem arr_set (f : Nat → Value) (z : Value) (q : Nat) (h : q < 4) : (arr f z q).setIfInBounds q (f q) = arr f z (q + 1) := by
  match q, h with
  | 0, _ => rfl
  | 1, _ => rfl
  | 2, _ => rfl
  | 3, _ => rfl
theorem arr_get (f : Nat → Value) (z : Value) (n q : Nat) (h : q < 4) : (arr f z n)[q]? = some (if q < n then f q else z) := by
  match q, h with
  | 0, _ => rfl
  | 1, _ => rfl
  | 2, _ => rfl
  | 3, _ => rfl
/-- Four bools. -/
def flags (p : Int → Bool) : Array Value := #[.bool (p 0), .bool (p 1), .bool (p 2), .bool (p 3)]
def wrote (L : List M.Wr) (i : Int) : Bool := L.any fun x => x.1 == i
theorem flags_set (L : List M.Wr) (r : Nat) (t : M.Tx) (h : r < 4) : (flags (wrote L)).setIfInBounds r (.bool true) = flags (wrote (L ++ [((r : Int), t)])) := by
  match r, h with
  | 0, _ => simp [flags, wrote]
  | 1, _ => simp [flags, wrote]
  | 2, _ => simp [flags, wrote]
  | 3, _ => simp [flags, wrote]
theorem flags_get (p : Int → Bool) (q : Nat) (h : q < 4) : (flags p)[q]? = some (.bool (p q)) := by
  match q, h with
  | 0, _ => rfl
  | 1, _ => rfl
  | 2, _ => rfl
  | 3, _ => rfl
end Go.Proofs.Ytoelaemneoabfaa
