/-
  The law OrderMaps, walked.
-/
import Derived.Test.YtoelaemneoabfabQI
import Derived.Test.YtoelaemneoabfabLT
import Derived.Lib.MinMax
namespace Go.Proofs.Ytoelaemneoabfab
open Go.RowKit
set_option maxRecDepth 100000

abbrev TA := Int × Tx × Int
/-- The cells from ⟨b, off⟩ on hold the acts of L, three cells each. -/
def RowAct (w : World) (b off : Nat) (L : List TA) : Prop := ∀ j (h : j < L.length),
  w.cell? ⟨b, off + j * 3, none⟩ = some (.int .i64 L[j].1) ∧ w.cell? ⟨b, off + j * 3 + 1, none⟩ = some (.string (M.bs L[j].2.1)) ∧ w.cell? ⟨b, off + j * 3 + 2, none⟩ = some (.int .i64 L[j].2.2)
theorem RowAct.lt {w : World} {b off : Nat} {L : List TA} (h : RowAct w b off L) (hL : 0 < L.length) : b < w.heap.size := block_lt_of_cell (h 0 hL).1
/-- What one owns is shown. -/
theorem own_rowT' {w : World} {base : Nat} {x y : Value} {R : M.Rm} (h1 : w.ownsRow base 9 1 x R.length (csT (R.map (·.1)))) (h2 : w.ownsRow base 3 1 y R.length (csN (R.map (·.2)))) : ShowM w x y R := by
  have l1 : (R.map (·.1)).length = R.length := by simp
  have l2 : (R.map (·.2)).length = R.length := by simp
  rw [← l1] at h1
  rw [← l2] at h2
  rcases own_rowT h1 with ⟨rfl, e1⟩ | ⟨g, c, rfl, _, r1⟩
  · have : R = [] := by simpa using e1
    subst this
    obtain ⟨a, c, rfl⟩ := row_form h2
    exact ⟨none, 0, a, c, rfl, rfl, .inl rfl⟩
  · rcases rowN_of (X := fun _ => False) ⟨row_base h2 (Nat.zero_le _), fun _ _ h => h⟩ with ⟨rfl, e2⟩ | ⟨g', c', rfl, r2⟩
    · have : R = [] := by simpa using e2
      subst this
      exact ⟨_, c, none, 0, rfl, rfl, .inl rfl⟩
    · exact ⟨_, c, _, c', by rw [l1], by rw [l2], .inr ⟨g, 0, g', 0, rfl, rfl, r1, r2⟩⟩
/-- Between two acts: the program's map, the document's, and what is kept meanwhile. -/
structure OM (w1 : World) (b : Nat) (E : M.Ents Tx) (R : M.Rm) (kv vv : Value) (X : Nat → Prop) (wr : World) : Prop where
  map : MapS X wr b E
  ref : C2 wr (b + 1) kv vv
  sh : ShowM wr kv vv R
  old : ∀ k, k < b → X k
  xr : X (b + 1)
  rows : ∀ a n c, (kv = .slice (some a) n c ∨ vv = .slice (some a) n c) → X a.block
  kp : Keep (fun k => k < b) w1 wr
section
variable {w1 wr w' : World} {b : Nat} {E E' : M.Ents Tx} {R R' : M.Rm} {kv vv : Value} {X : Nat → Prop}
theorem OM.bel (h : OM w1 b E R kv vv X wr) (hb : Bel wr w') : OM w1 b E R kv vv X w' :=
  ⟨Held.bel h.map hb, h.ref.bel hb, h.sh.bel hb, h.old, h.xr, h.rows, h.kp.tr (Keep.of_bel hb (fun k hk => h.map.lt k (h.old k hk)))⟩
theorem OM.turn (h : OM w1 b E R kv vv X wr) (hm : MapS X w' b E') (k : Keep X wr w') : OM w1 b E' R kv vv X w' :=
  ⟨hm, h.ref.keep k h.xr, h.sh.keep k h.rows, h.old, h.xr, h.rows, h.kp.tr (k.weak h.old)⟩
theorem OM.newref {x y : Value} (h : OM w1 b E R kv vv X wr) (hb : Bel wr w') (ho : OwnM w' wr.heap.size x y R') : OM w1 b E R' x y (More X wr w') ((w'.setCell ⟨b + 1, 0, none⟩ x).setCell ⟨b + 1, 1, none⟩ y) := by
  have hm := Held.more h.map hb
  have hbl : b + 1 < wr.heap.size := h.ref.lt
  have hr := (h.ref.bel hb)
  have hk : Keep (fun k => k ≠ b + 1) w' ((w'.setCell ⟨b + 1, 0, none⟩ x).setCell ⟨b + 1, 1, none⟩ y) := ((Keep.refl _ w').set (p := ⟨b + 1, 0, none⟩) (by simp) _).set (p := ⟨b + 1, 1, none⟩) (by simp) _
  have nx : some (b + 1) ≠ x.ownBlock := fun e => by have := (World.ownsRow.lt ho.1 _ e.symm).1; omega
  have ny : some (b + 1) ≠ y.ownBlock := fun e => by have := (World.ownsRow.lt ho.2 _ e.symm).1; omega
  have o1 := row_stored (i := 0) (j := 1) (u1 := x) (u2 := y) ho.1 nx nx
  have o2 := row_stored (i := 0) (j := 1) (u1 := x) (u2 := y) ho.2 ny ny
  have hrows : ∀ a n c, (x = .slice (some a) n c ∨ y = .slice (some a) n c) → More X wr w' a.block := fun a n c e => by
    rcases e with e | e
    · have := World.ownsRow.lt ho.1 a.block (by rw [e]; rfl)
      exact .inr this
    · have := World.ownsRow.lt ho.2 a.block (by rw [e]; rfl)
      exact .inr this
  refine ⟨?_, C2.both x y hr, ?_, fun k hk => .inl (h.old k hk), .inl h.xr, hrows, ?_⟩
  · obtain ⟨v', hb', hnb, ho', hob, hl⟩ := id hm
    have := Held.keep (e := 70) (size := 2) (t := 26) hm hk (fun e => hnb (by rw [e]; exact .inl h.xr)) (fun v hv g hg => ?_)
    · exact this
    · have := hv.symm.trans hb'
      injection this with this
      injection this with this
      simp at this
      subst this
      have := ho'.2 g hg
      exact fun e => this (by rw [e]; exact .inl h.xr)
  · have s1 := own_rowT' (R := R') o1 o2
    exact s1
  · refine (h.kp.tr (Keep.of_bel hb (fun k hk => h.map.lt k (h.old k hk)))).tr (hk.weak (fun k hk => by omega))
end
end Go.Proofs.Ytoelaemneoabfab
