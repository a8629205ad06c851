/-
  What the contracts of layer 13 (node) say of the world: which blocks are kept, boxes, rows of the call's own.
-/
import Derived.Test.YtcmplklefeicbaaRows
import Derived.Test.YtcmplklefeicbaaM
import Derived.WalkLawsBesides
import Derived.WalkSpells
import Derived.Deep.RegionWith
import Derived.Deep.RegionHeld3
import Derived.Lib.Overlaps
import Derived.Lib.AppendZerosOnto
import Derived.Lib.JoinLaws
import Derived.Laws.Externs
import Derived.Shelf.RegionOpenPlain
namespace Go.Proofs.Ytcmplklefeicbaa
open Go.RowKit

/-- Nothing that was there has turned. -/
abbrev Bel (w w' : World) : Prop := Below w.heap.size w w'
theorem Bel.al {w w1 : World} (h : Bel w w1) (o : Obj) : Bel w (w1.alloc o) := Below.alloc h h.size o
theorem Bel.dr {w w1 : World} (h : Bel w w1) : Bel w w1.drew := Below.drew h
theorem Bel.tr {w w1 w2 : World} (h : Bel w w1) (k : Bel w1 w2) : Bel w w2 := Below.trans h (Below.mono k h.size)
theorem bel_cell {W w' : World} (b : Bel W w') {g : Nat} (hg : g < W.heap.size) : ∀ o, w'.cell? ⟨g, o, none⟩ = W.cell? ⟨g, o, none⟩ := fun o => b.cell (p := ⟨g, o, none⟩) hg

/-- The blocks of X are as they were. -/
structure Keep (X : Nat → Prop) (w w' : World) : Prop where
  os : w'.os = w.os
  tape : w'.tape = w.tape
  output : w'.output = w.output
  size : w.heap.size ≤ w'.heap.size
  block : ∀ k, X k → w'.heap[k]? = w.heap[k]?
theorem Keep.refl (X : Nat → Prop) (w : World) : Keep X w w := ⟨rfl, rfl, rfl, Nat.le_refl _, fun _ _ => rfl⟩
theorem Keep.tr {X : Nat → Prop} {a b c : World} (h : Keep X a b) (k : Keep X b c) : Keep X a c :=
  ⟨k.os.trans h.os, k.tape.trans h.tape, k.output.trans h.output, Nat.le_trans h.size k.size, fun i hi => (k.block i hi).trans (h.block i hi)⟩
theorem Keep.weak {X Y : Nat → Prop} {a b : World} (h : Keep X a b) (hs : ∀ k, Y k → X k) : Keep Y a b := ⟨h.os, h.tape, h.output, h.size, fun k hk => h.block k (hs k hk)⟩
theorem Keep.dr {X : Nat → Prop} {a b : World} (h : Keep X a b) : Keep X a b.drew := ⟨h.os, h.tape, h.output, h.size, h.block⟩
theorem Keep.of_bel {X : Nat → Prop} {a b : World} (h : Bel a b) (hX : ∀ k, X k → k < a.heap.size) : Keep X a b := ⟨h.os, h.tape, h.output, h.size, fun k hk => h.block k (hX k hk)⟩
theorem Keep.below {a b : World} {n : Nat} (h : Keep (fun k => k < n) a b) : Below n a b := ⟨h.os, h.tape, h.output, h.size, h.block⟩
theorem Keep.al {X : Nat → Prop} {a b : World} (h : Keep X a b) (hX : ∀ k, X k → k < a.heap.size) (o : Obj) : Keep X a (b.alloc o) :=
  h.tr ⟨rfl, rfl, rfl, by simp, fun k hk => Below.heap_alloc _ _ _ (Nat.lt_of_lt_of_le (hX k hk) h.size)⟩
theorem Keep.set {X : Nat → Prop} {a b : World} (h : Keep X a b) {p : Addr} (hp : ¬ X p.block) (u : Value) : Keep X a (b.setCell p u) :=
  h.tr ⟨rfl, rfl, rfl, by simp [World.setCell], fun k hk => Below.heap_setCell _ _ _ _ (fun e => hp (by rw [← e]; exact hk))⟩
theorem Keep.setRow {X : Nat → Prop} {a b : World} (h : Keep X a b) {g : Nat} (hp : ¬ X g) (cs : Array Value) : Keep X a (b.setRow g cs) :=
  h.tr ⟨rfl, rfl, rfl, by simp, fun k hk => setRow_other b g k cs (fun e => hp (by first | (rw [← e]; exact hk) | (rw [e]; exact hk)))⟩
theorem Keep.grown {X : Nat → Prop} {a b c : World} {row : Option Nat} (h : Keep X a b) (hX : ∀ k, X k → k < a.heap.size) (hg : b.grownBy c row) (hr : ∀ k, row = some k → ¬ X k) : Keep X a c :=
  h.tr ⟨hg.os, hg.tape, hg.output, hg.size, fun k hk => hg.block k (Nat.lt_of_lt_of_le (hX k hk) h.size) (fun e => hr k e.symm hk)⟩
theorem Keep.cell {X : Nat → Prop} {a b : World} (h : Keep X a b) {p : Addr} (hp : X p.block) : b.cell? p = a.cell? p := World.cell?_of_block (w := a) (h.block p.block hp)
theorem Keep.frozen {X : Nat → Prop} {a b : World} (h : Keep X a b) {p : Addr} (hp : X p.block) : b.frozen? p = a.frozen? p := World.frozen?_of_block (w := a) (h.block p.block hp)

/-- Block B is a variable's box of type t, which holds v. -/
def Bx (w : World) (B : Nat) (t : TypeId) (v : Value) : Prop := w.heap[B]? = some (.cells #[v] t (0, 0))
theorem Bx.lt {W : World} {B : Nat} {t : TypeId} {v : Value} (h : Bx W B t v) : B < W.heap.size := (Array.getElem?_eq_some_iff.1 h).1
theorem Bx.cell {W : World} {B : Nat} {t : TypeId} {v : Value} (h : Bx W B t v) : W.cell? ⟨B, 0, none⟩ = some v := by simp [World.cell?, show W.heap[B]? = _ from h]
theorem Bx.frozen {W : World} {B : Nat} {t : TypeId} {v : Value} (h : Bx W B t v) : W.frozen? ⟨B, 0, none⟩ = false := by simp [World.frozen?, show W.heap[B]? = _ from h]
theorem Bx.new (W : World) (t : TypeId) (v : Value) : Bx (W.alloc (.cells #[v] t)) W.heap.size t v := heap_alloc_new W _
theorem Bx.keep {X : Nat → Prop} {W W' : World} {B : Nat} {t : TypeId} {v : Value} (h : Bx W B t v) (k : Keep X W W') (hX : X B) : Bx W' B t v := (k.block B hX).trans h
theorem Bx.al {W : World} {B : Nat} {t : TypeId} {v : Value} (h : Bx W B t v) (o : Obj) : Bx (W.alloc o) B t v := (Below.heap_alloc W o B h.lt).trans h
theorem Bx.bel {W W' : World} {B : Nat} {t : TypeId} {v : Value} (h : Bx W B t v) (k : Bel W W') : Bx W' B t v := (k.block B h.lt).trans h
theorem Bx.set {W : World} {B : Nat} {t : TypeId} {v : Value} (v' : Value) (h : Bx W B t v) : Bx (W.setCell ⟨B, 0, none⟩ v') B t v' := by
  obtain ⟨hlt, hk⟩ := Array.getElem?_eq_some_iff.1 h
  show (W.heap.modify B _)[B]? = _
  rw [Array.getElem?_eq_getElem (by rw [Array.size_modify]; exact hlt), Array.getElem_modify_self, hk]
  rfl
theorem Bx.other {W : World} {B b : Nat} {t : TypeId} {v : Value} (v' : Value) (h : Bx W B t v) (hne : B ≠ b) (o : Nat) : Bx (W.setCell ⟨b, o, none⟩ v') B t v := (Below.heap_setCell _ _ _ _ (by simpa using hne)).trans h

/-- A row of cells of the call's own: a slice value v of n elements of 'size' cells each; its block isn't among those of X. -/
def Own (e : TypeId) (size : Nat) (X : Nat → Prop) (w : World) (v : Value) (n : Nat) (xs : List Value) : Prop :=
  w.ownsRow 0 e size v n xs ∧ ∀ g, v.ownBlock = some g → ¬ X g
theorem Own.keep {e size} {X Y : Nat → Prop} {w w' : World} {v : Value} {n : Nat} {xs : List Value} (h : Own e size X w v n xs) (k : Keep Y w w') (hY : ∀ g, v.ownBlock = some g → Y g) : Own e size X w' v n xs := by
  refine ⟨⟨h.1.1, ?_⟩, h.2⟩
  rcases h.1.2 with hn | ⟨g, cap, cur, rfl, hb, hgg, rest⟩
  · exact .inl hn
  · exact .inr ⟨g, cap, cur, rfl, hb, (k.block g (hY g rfl)).trans hgg, rest⟩
theorem Own.bel {e size} {X : Nat → Prop} {w w' : World} {v : Value} {n : Nat} {xs : List Value} (h : Own e size X w v n xs) (k : Bel w w') : Own e size X w' v n xs :=
  h.keep (Keep.of_bel k (X := fun k => k < w.heap.size) (fun _ h => h)) (fun g hg => (h.1.lt g hg).2)

/-- A box at b whose slice owns its row. -/
def Held (e size : Nat) (t : TypeId) (X : Nat → Prop) (w : World) (b n : Nat) (xs : List Value) : Prop :=
  ∃ v, Bx w b t v ∧ ¬ X b ∧ Own e size X w v n xs ∧ v.ownBlock ≠ some b ∧ ∀ k, X k → k < w.heap.size
theorem Held.bel {e size : Nat} {t : TypeId} {X : Nat → Prop} {w w' : World} {b n : Nat} {xs : List Value} (h : Held e size t X w b n xs) (k : Bel w w') : Held e size t X w' b n xs := by
  obtain ⟨v, h1, h2, h3, h4, h5⟩ := h
  exact ⟨v, h1.bel k, h2, h3.bel k, h4, fun j hj => Nat.lt_of_lt_of_le (h5 j hj) k.size⟩
/-- New blocks may be put among those that are to be kept. -/
theorem Held.more {e size : Nat} {t : TypeId} {X : Nat → Prop} {w w' : World} {b n : Nat} {xs : List Value} (h : Held e size t X w b n xs) (k : Bel w w') :
    Held e size t (fun j => X j ∨ (w.heap.size ≤ j ∧ j < w'.heap.size)) w' b n xs := by
  obtain ⟨v, h1, h2, h3, h4, h5⟩ := h
  refine ⟨v, h1.bel k, ?_, ⟨(h3.bel k).1, fun g hg => ?_⟩, h4, fun j hj => ?_⟩
  · rintro (hb | ⟨hb, _⟩)
    · exact h2 hb
    · have := h1.lt; omega
  · rintro (hb | ⟨hb, _⟩)
    · exact h3.2 g hg hb
    · have := (h3.1.lt g hg).2; omega
  · have := k.size
    rcases hj with hj | ⟨_, hj⟩
    · have := h5 j hj; omega
    · exact hj
theorem Held.weak {e size : Nat} {t : TypeId} {X Y : Nat → Prop} {w : World} {b n : Nat} {xs : List Value} (h : Held e size t X w b n xs) (hs : ∀ k, Y k → X k) : Held e size t Y w b n xs := by
  obtain ⟨v, h1, h2, h3, h4, h5⟩ := h
  exact ⟨v, h1, fun hb => h2 (hs _ hb), ⟨h3.1, fun g hg hb => h3.2 g hg (hs _ hb)⟩, h4, fun j hj => h5 j (hs j hj)⟩
/-- What it owns is kept where it and its row are. -/
theorem Held.keep {e size : Nat} {t : TypeId} {X Y : Nat → Prop} {w w' : World} {b n : Nat} {xs : List Value} (h : Held e size t X w b n xs) (k : Keep Y w w') (hb : Y b) (hr : ∀ v, Bx w b t v → ∀ g, v.ownBlock = some g → Y g) : Held e size t X w' b n xs := by
  obtain ⟨v, h1, h2, h3, h4, h5⟩ := h
  exact ⟨v, h1.keep k hb, h2, h3.keep k (hr v h1), h4, fun j hj => Nat.lt_of_lt_of_le (h5 j hj) k.size⟩
theorem Held.lt {e size : Nat} {t : TypeId} {X : Nat → Prop} {w : World} {b n : Nat} {xs : List Value} (h : Held e size t X w b n xs) : ∀ k, X k → k < w.heap.size := by
  obtain ⟨v, h1, h2, h3, h4, h5⟩ := h
  exact h5
/-- A new box with an empty slice. -/
theorem Held.new (e size : Nat) (t : TypeId) (w : World) : Held e size t (fun k => k < w.heap.size) (w.alloc (.cells #[.slice none 0 0] t)) w.heap.size 0 [] :=
  ⟨_, Bx.new w t _, by simp, ⟨World.ownsRow_nil _ _ _ _, by simp [Value.ownBlock]⟩, by simp [Value.ownBlock], fun k hk => by simp; omega⟩

theorem info40 : (Try.prog.info? 40).map (fun i => (i.zero, i.size, i.bytes)) = some (some (.agg #[.string ⟨#[]⟩, .string ⟨#[]⟩, .bool false]), 3, 40) := by kernel_rfl
theorem info3 : (Try.prog.info? 3).map (fun i => (i.zero, i.size, i.bytes)) = some (some (.int .i64 0), 1, 8) := by kernel_rfl
theorem hid {p : Prop} (h : p) : Hid p := h
theorem add_lit (g o i : Nat) : (⟨g, o, none⟩ : Addr).add i = ⟨g, o + i, none⟩ := by unfold Addr.add; split <;> simp_all
end Go.Proofs.Ytcmplklefeicbaa
