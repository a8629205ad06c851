/-
  What a device is in memory; the contracts of New, Size, Off, On, Open, check, walked.
-/
import Derived.Test.YtoelaemneoabfaaL
import Derived.Maps.OwnSet
import Derived.Shelf.SlMaps.Clone
namespace Go.Proofs.Ytoelaemneoabfaa
open Go.RowKit

def datW (x : M.Wr) : DataW Unit := .agg [.lit (.int .i64 x.1), .lit (.string x.2)]
/-- How a write reads. -/
def RW (v : Value) : Option (DataW Unit × List MemPlace) := match v with
  | .agg ⟨[.int .i64 s, .string t]⟩ => some (datW (s, t.data.toList), [])
  | _ => none
def valW (x : M.Wr) : Value := .agg #[.int .i64 x.1, .string (M.bs x.2)]
theorem RW_val (x : M.Wr) : RW (valW x) = some (datW x, []) := rfl
theorem RW_inv {v : Value} {x : M.Wr} {ps : List MemPlace} (h : RW v = some (datW x, ps)) : v = valW x := by
  unfold RW at h
  split at h
  · rename_i s t
    simp only [datW, Option.some.injEq, Prod.mk.injEq, DataW.agg.injEq, List.cons.injEq, DataW.lit.injEq, Lit.int.injEq, Lit.string.injEq, and_true, true_and] at h
    obtain ⟨⟨h1, h2⟩, _⟩ := h
    unfold valW
    rw [← h1, ← h2, M.bs_of]
  · cases h
theorem law3 : Maps.Keyed Try.prog 3 := Maps.int_keyed Try.underlying3
/-- Block mb is a map in which each sector has its last write. -/
def MapW (w : World) (mb n : Nat) (F : Int → M.Wr) : Prop := ∃ D : DataW Unit, w.ownsMap Try.prog 3 RW mb n D ∧ ∀ i : Int, (Lit.int .i64 i).wf = true → D.atKey (.int .i64 i) (datW (0, [])) = datW (F i)
theorem MapW.same {w w' : World} {mb n : Nat} {F : Int → M.Wr} (h : MapW w mb n F) (hb : w'.heap[mb]? = w.heap[mb]?) : MapW w' mb n F := by
  obtain ⟨D, ⟨es, clock, h1, h2⟩, h3⟩ := h
  exact ⟨D, ⟨es, clock, hb.trans h1, h2⟩, h3⟩
theorem MapW.lt {w : World} {mb n : Nat} {F : Int → M.Wr} (h : MapW w mb n F) : mb < w.heap.size := by
  obtain ⟨D, h1, _⟩ := h
  exact h1.lt
theorem MapW.look {w : World} {mb n : Nat} {F : Int → M.Wr} (h : MapW w mb n F) (i : Int) (hi : (Lit.int .i64 i).wf = true) :
    (Instr.lookup 58 (.map (some mb)) (.int .i64 i) false).run Try.prog w = .ok (valW (F i)) w := by
  obtain ⟨D, h1, h2⟩ := h
  obtain ⟨v, ps, hr, hv⟩ := h1.lookup law3 Try.underlying58 (z := valW (0, [])) (by kernel_rfl) (RW_val (0, [])) (Maps.keyOf_int_mk Try.underlying3 hi)
  rw [h2 i hi] at hv
  rw [hr, RW_inv hv]
theorem MapW.store {w : World} {mb n : Nat} {F : Int → M.Wr} (h : MapW w mb n F) (hn : n < maxLen) (i : Int) (hi : (Lit.int .i64 i).wf = true) (x : M.Wr) :
    ∃ w', (Instr.mapUpdate 58 (.map (some mb)) (.int .i64 i) (valW x)).run Try.prog w = .ok () w' ∧ MapW w' mb (n + 1) (fun j => if j = i then x else F j) ∧ w.grownBy w' (some mb) := by
  obtain ⟨D, h1, h2⟩ := h
  have htidy := h1.tidy law3
  obtain ⟨w', hr, h3, h4⟩ := h1.update law3 Try.underlying58 hn (Maps.keyOf_int_mk Try.underlying3 hi) (RW_val x)
  refine ⟨w', hr, ⟨_, h3, fun j hj => ?_⟩, h4⟩
  by_cases e : j = i
  · subst e
    simp only [if_true]
    exact Maps.atKey_put_same (by obtain ⟨es, he, _⟩ := htidy; exact ⟨es, he⟩) (by trivial) _ _
  · show _ = datW (if j = i then x else F j)
    rw [if_neg e, Maps.atKey_put_other (by simpa using e)]
    exact h2 j hj
theorem MapW.new (w : World) : MapW (w.alloc (.map #[] 0)) w.heap.size 0 (fun _ => (0, [])) :=
  ⟨_, World.ownsMap_made w Try.prog 3 RW, fun _ _ => rfl⟩

def csW (L : List M.Wr) : List Value := L.flatMap fun e => [.int .i64 e.1, .string (M.bs e.2)]
theorem csW_length (L : List M.Wr) : (csW L).length = L.length * 2 := by
  induction L with
  | nil => rfl
  | cons v L ih => simp only [csW, List.flatMap_cons, List.length_append, List.length_cons, List.length_nil] at *; omega
theorem csW_append (L L' : List M.Wr) : csW (L ++ L') = csW L ++ csW L' := by simp [csW]
theorem csW_at : ∀ (L : List M.Wr) (j : Nat) (h : j < L.length), (csW L)[j * 2]? = some (.int .i64 L[j].1) ∧ (csW L)[j * 2 + 1]? = some (.string (M.bs L[j].2))
  | v :: L, 0, _ => by simp [csW, List.flatMap_cons]
  | v :: L, j + 1, h => by
    have := csW_at L j (by simpa using h)
    simp only [csW, List.flatMap_cons, List.cons_append, List.nil_append, List.getElem_cons_succ] at *
    rw [show (j + 1) * 2 = j * 2 + 1 + 1 by omega]
    simpa using this
theorem csW_one (L : List M.Wr) : ∀ u ∈ csW L, u.oneCell' = true := by
  intro u hu
  simp only [csW, List.mem_flatMap] at hu
  obtain ⟨e, _, hu⟩ := hu
  simp at hu
  rcases hu with rfl | rfl <;> rfl
def csN (L : List Int) : List Value := L.map (Value.int .i64)
theorem csN_length (L : List Int) : (csN L).length = L.length * 1 := by simp [csN]
theorem csN_one (L : List Int) : ∀ u ∈ csN L, u.oneCell' = true := by
  intro u hu
  simp only [csN, List.mem_map] at hu
  obtain ⟨e, _, rfl⟩ := hu
  rfl
theorem rowW_of {w : World} {v : Value} {L : List M.Wr} (h : w.ownsRow 0 65 2 v L.length (csW L)) : v = .slice none 0 0 ∧ L = [] ∨ ∃ g cap, v = .slice (some ⟨g, 0, none⟩) L.length cap ∧ g < w.heap.size ∧ RowW w g 0 L := by
  have h' := h
  obtain ⟨hlen, ⟨h1, h2⟩ | ⟨g, cap, cur, hv, hg, hh, hn, hm, hs, ht⟩⟩ := h
  · exact .inl ⟨h1, List.length_eq_zero_iff.1 h2⟩
  · refine .inr ⟨g, cap, hv, (Array.getElem?_eq_some_iff.1 hh).1, fun j hj => ?_⟩
    have hc := World.ownsRow.cells h' (g := g) (by rw [hv]; rfl)
    obtain ⟨k0, k1⟩ := csW_at L j hj
    refine ⟨?_, ?_⟩
    · rw [← add_lit]; exact hc _ _ k0
    · rw [Nat.add_assoc, ← add_lit]; exact hc _ _ k1
theorem showsW_of {w : World} {v : Value} {L : List M.Wr} (h : w.ownsRow 0 65 2 v L.length (csW L)) : ShowsW w.heap.size w v L := by
  rcases rowW_of h with ⟨rfl, rfl⟩ | ⟨g, cap, rfl, hg, hr⟩
  · exact ⟨none, 0, rfl, .inl rfl⟩
  · exact ⟨_, cap, rfl, .inr ⟨g, 0, rfl, hg, hr⟩⟩

/-- A device, as it is. room: how many stores its map has seen, at most. -/
structure St where
  size : Int
  fin : Int → M.Wr
  wait : List M.Wr
  done : Int
  off : Bool
  fuse : Int
  keep : List Int
  room : Nat

/-- The device at b is S; none of its blocks is among those of X. -/
structure DevAt (X : Nat → Prop) (w : World) (b : Nat) (S : St) (mb n : Nat) (wv kv : Value) : Prop where
  blk : Blk w b #[.int .i64 S.size, .map (some mb), wv, .int .i64 S.done, .bool S.off, .int .i64 S.fuse, kv] 61
  map : MapW w mb n S.fin
  room : n ≤ S.room
  wait : w.ownsRow 0 65 2 wv S.wait.length (csW S.wait)
  keep : w.ownsRow 0 3 1 kv S.keep.length (csN S.keep)
  xb : ¬ X b
  xm : ¬ X mb
  xw : ∀ g, wv.ownBlock = some g → ¬ X g
  xk : ∀ g, kv.ownBlock = some g → ¬ X g
  lt : ∀ k, X k → k < w.heap.size
def Dev (X : Nat → Prop) (w : World) (b : Nat) (S : St) : Prop := ∃ mb n wv kv, DevAt X w b S mb n wv kv
theorem row_keep {Y : Nat → Prop} {w w' : World} {e : TypeId} {size : Nat} {v : Value} {n : Nat} {xs : List Value} (h : w.ownsRow 0 e size v n xs) (k : Keep Y w w') (hY : ∀ g, v.ownBlock = some g → Y g) : w'.ownsRow 0 e size v n xs :=
  (Own.keep (X := fun _ => False) ⟨h, fun _ _ h => h⟩ k hY).1
theorem row_bel {w w' : World} {e : TypeId} {size : Nat} {v : Value} {n : Nat} {xs : List Value} (h : w.ownsRow 0 e size v n xs) (k : Bel w w') : w'.ownsRow 0 e size v n xs :=
  (Own.bel (X := fun _ => False) ⟨h, fun _ _ h => h⟩ k).1
theorem DevAt.bel {X : Nat → Prop} {w w' : World} {b : Nat} {S : St} {mb n : Nat} {wv kv : Value} (h : DevAt X w b S mb n wv kv) (k : Bel w w') : DevAt X w' b S mb n wv kv :=
  ⟨h.blk.below k h.blk.lt, h.map.same (k.block mb h.map.lt), h.room, row_bel h.wait k, row_bel h.keep k, h.xb, h.xm, h.xw, h.xk, fun j hj => Nat.lt_of_lt_of_le (h.lt j hj) k.size⟩
theorem Dev.bel {X : Nat → Prop} {w w' : World} {b : Nat} {S : St} (h : Dev X w b S) (k : Bel w w') : Dev X w' b S := by
  obtain ⟨mb, n, wv, kv, h⟩ := h
  exact ⟨mb, n, wv, kv, h.bel k⟩
theorem Dev.lt {X : Nat → Prop} {w : World} {b : Nat} {S : St} (h : Dev X w b S) : ∀ k, X k → k < w.heap.size := by
  obtain ⟨mb, n, wv, kv, h⟩ := h
  exact h.lt
theorem Dev.weak {X Y : Nat → Prop} {w : World} {b : Nat} {S : St} (h : Dev X w b S) (hs : ∀ k, Y k → X k) : Dev Y w b S := by
  obtain ⟨mb, n, wv, kv, h⟩ := h
  exact ⟨mb, n, wv, kv, h.blk, h.map, h.room, h.wait, h.keep, fun hy => h.xb (hs _ hy), fun hy => h.xm (hs _ hy), fun g hg hy => h.xw g hg (hs _ hy), fun g hg hy => h.xk g hg (hs _ hy), fun k hk => h.lt k (hs k hk)⟩
/-- A cell of the device's own block turned. -/
theorem Blk.set {w : World} {B : Nat} {cs : Array Value} {t : TypeId} (h : Blk w B cs t) (j : Nat) (v : Value) : Blk (w.setCell ⟨B, j, none⟩ v) B (cs.setIfInBounds j v) t := by
  show (w.setCell ⟨B, j, none⟩ v).heap[B]? = _
  rw [setCell_eq_setRow w B j _ t (0, 0) _ h]
  exact setRow_heap w B _ _ t _ h
/-- The other parts of a device stand where only its own block is turned. -/
theorem DevAt.turn {X : Nat → Prop} {w w' : World} {b : Nat} {S S' : St} {mb n : Nat} {wv kv : Value} (h : DevAt X w b S mb n wv kv) (k : Keep (fun j => j ≠ b) w w') (hb : Blk w' b #[.int .i64 S'.size, .map (some mb), wv, .int .i64 S'.done, .bool S'.off, .int .i64 S'.fuse, kv] 61)
    (hf : S'.fin = S.fin) (hw : S'.wait = S.wait) (hk : S'.keep = S.keep) (hr : S'.room = S.room) : DevAt X w' b S' mb n wv kv ∧ Keep X w w' := by
  have nb : ∀ {e : TypeId} {size : Nat} {v : Value} {m : Nat} {xs : List Value}, e ≠ 61 → w.ownsRow 0 e size v m xs → ∀ g, v.ownBlock = some g → g ≠ b := by
    intro e size v m xs he hv g hg e'
    subst e'
    rcases hv.2 with ⟨rfl, _⟩ | ⟨g', cap, cur, rfl, _, hgb, _⟩
    · simp [Value.ownBlock] at hg
    · obtain rfl : g' = g := by simpa [Value.ownBlock] using hg
      have := (show w.heap[g']? = _ from h.blk).symm.trans hgb
      simp at this
      exact he this.2.symm
  have hmb : mb ≠ b := fun e => by
    obtain ⟨D, ⟨es, clock, h1, _⟩, _⟩ := h.map
    rw [e, show w.heap[b]? = _ from h.blk] at h1
    cases h1
  refine ⟨⟨hb, by rw [hf]; exact h.map.same (k.block mb hmb), by rw [hr]; exact h.room, by rw [hw]; exact row_keep h.wait k (nb (by decide) h.wait), by rw [hk]; exact row_keep h.keep k (nb (by decide) h.keep), h.xb, h.xm, h.xw, h.xk, fun j hj => Nat.lt_of_lt_of_le (h.lt j hj) k.size⟩, k.weak (fun j hj e => h.xb (by rw [← e]; exact hj))⟩
end Go.Proofs.Ytoelaemneoabfaa
