/-
  The reference of layer 3: Write, walked.
-/
import Derived.Test.YtoelaemneoabfaaRK
namespace Go.Proofs.Ytoelaemneoabfaa
open Go.RowKit

def rWrite (R : Rf) (i : Int) (t : M.Tx) : Rf := if rCheck R i ≠ 0 then R else if 256 < t.length then R else if R.fuse = 1 then rStep R else { rTick R with at' := R.at' ++ [i], data := R.data ++ [pad t] }
def rWriteE (R : Rf) (i : Int) (t : M.Tx) : Int := if rCheck R i ≠ 0 then rCheck R i else if 256 < t.length then 6 else if R.fuse = 1 then 7 else 0
theorem rCheck_in {R : Rf} {i : Int} (h : rCheck R i = 0) : R.off = false ∧ 0 ≤ i ∧ i < R.last.length := by
  unfold rCheck at h
  split at h
  · cases h
  · rename_i h1
    split at h
    · cases h
    · rename_i h2
      exact ⟨by simpa using h1, by omega, by omega⟩
theorem GoodR.write {N : Nat} {R : Rf} (g : GoodR N R) (hN : N + 1 ≤ 1000) (i : Int) (t : M.Tx) : GoodR (N + 1) (rWrite R i t) := by
  have g' : GoodR (N + 1) R := ⟨hN, g.ne, g.few, g.len, by have := g.wait; omega, g.sec, g.keep, g.fuse0, g.fuse, g.cmds0, by have := g.cmds; omega⟩
  unfold rWrite
  split
  · exact g'
  · rename_i hc
    split
    · exact g'
    · split
      · exact g.step hN
      · rename_i h
        have := g.step hN
        simp only [rStep, if_neg h] at this
        obtain ⟨_, h0, h1⟩ := rCheck_in (by simpa using hc)
        refine ⟨hN, g.ne, g.few, by simpa using g.len, by have := g.wait; simp; omega, ?_, this.keep, this.fuse0, this.fuse, this.cmds0, this.cmds⟩
        intro m hm
        show 0 ≤ (R.at' ++ [i])[m] ∧ (R.at' ++ [i])[m] < (R.last.length : Int)
        by_cases hlt : m < R.at'.length
        · rw [List.getElem_append_left hlt]
          exact g.sec m hlt
        · rw [List.getElem_append_right (by omega)]
          simp
          omega
theorem own_kept {w w' : World} {base n : Nat} {e : TypeId} {v : Value} {xs : List Value} (h : w.ownsRow base e 1 v n xs) (k : Bel w w') : w'.ownsRow base e 1 v n xs :=
  World.ownsRow.kept (row := none) h ⟨k.os, k.tape, k.output, k.size, fun j hj _ => k.block j hj⟩ (by cases v.ownBlock with | none => exact .inl rfl | some k => exact .inr (by simp))
theorem ap1T {w : World} {base n : Nat} {v : Value} {L : List M.Tx} (hl : L.length = n) (hown : w.ownsRow base 9 1 v n (csT L)) (t : M.Tx) (hn : n + 1 ≤ 100000) (hb : base ≤ w.heap.size) :
    ∃ v' w', (Builtin.append_ #[28, 28] 28 #[v, .slice (some ⟨w.heap.size, 0, none⟩) 1 1]).run Try.prog (w.alloc (.cells #[.string (M.bs t)] 9)) = .ok v' w' ∧ w'.ownsRow base 9 1 v' (n + 1) (csT (L ++ [t])) ∧ Below base w w' := by
  obtain ⟨i0, hi, hz0, hz1, hz2⟩ := info_parts info9
  obtain ⟨v', w', h1, h2, h3, _, h4⟩ := run_append_own_at (P := Try.prog) _ base 28 28 9 i0 _ 1 16 Try.underlying28 hi hz0 hz1 hz2 rfl (by decide) v n (csT L) (hown.alloc (.cells #[.string (M.bs t)] 9)) ⟨w.heap.size, 0, none⟩ 1 1 (csT [t]) rfl (by
    intro j u hj
    rw [add_lit, World.cell?_alloc_at (hn := rfl)]
    simpa [csT] using hj) (csT_one _) (by unfold maxLen; omega) (by omega) (by simp; omega)
  refine ⟨v', w', h1, by rw [show csT (L ++ [t]) = csT L ++ csT [t] by simp [csT]]; exact h2, (Below.alloc (Below.refl base w) hb _).grown h3 (by simp; omega) (fun k hk => (hown.lt k hk).1)⟩
theorem ap1N {w : World} {base n : Nat} {v : Value} {L : List Int} (hl : L.length = n) (hown : w.ownsRow base 3 1 v n (csN L)) (t : Int) (hn : n + 1 ≤ 100000) (hb : base ≤ w.heap.size) :
    ∃ v' w', (Builtin.append_ #[29, 29] 29 #[v, .slice (some ⟨w.heap.size, 0, none⟩) 1 1]).run Try.prog (w.alloc (.cells #[.int .i64 t] 3)) = .ok v' w' ∧ w'.ownsRow base 3 1 v' (n + 1) (csN (L ++ [t])) ∧ Below base w w' := by
  obtain ⟨i0, hi, hz0, hz1, hz2⟩ := info_parts info3
  obtain ⟨v', w', h1, h2, h3, _, h4⟩ := run_append_own_at (P := Try.prog) _ base 29 29 3 i0 _ 1 8 Try.underlying29 hi hz0 hz1 hz2 rfl (by decide) v n (csN L) (hown.alloc (.cells #[.int .i64 t] 3)) ⟨w.heap.size, 0, none⟩ 1 1 (csN [t]) rfl (by
    intro j u hj
    rw [add_lit, World.cell?_alloc_at (hn := rfl)]
    simpa [csN] using hj) (csN_one _) (by unfold maxLen; omega) (by omega) (by simp; omega)
  refine ⟨v', w', h1, by rw [show csN (L ++ [t]) = csN L ++ csN [t] by simp [csN]]; exact h2, (Below.alloc (Below.refl base w) hb _).grown h3 (by simp; omega) (fun k hk => (hown.lt k hk).1)⟩
theorem seesT_own {w : World} {base : Nat} {v : Value} {L : List M.Tx} (h : w.ownsRow base 9 1 v L.length (csT L)) (h0 : 0 < L.length) (Y : Nat → Prop) (hY : ∀ g, base ≤ g → g < w.heap.size → Y g) : SeesT Y w v L := by
  rcases h.2 with ⟨_, e⟩ | ⟨g, cap, cur, rfl, _⟩
  · omega
  · refine ⟨_, cap, rfl, .inr ⟨g, 0, rfl, hY g (h.lt g rfl).1 (h.lt g rfl).2, fun j hj => ?_⟩⟩
    rw [Nat.zero_add, h.cellAt j (by omega)]; simp [csT, hj]
theorem seesN_own {w : World} {base : Nat} {v : Value} {L : List Int} (h : w.ownsRow base 3 1 v L.length (csN L)) (h0 : 0 < L.length) (Y : Nat → Prop) (hY : ∀ g, base ≤ g → g < w.heap.size → Y g) : SeesN Y w v L := by
  rcases h.2 with ⟨_, e⟩ | ⟨g, cap, cur, rfl, _⟩
  · omega
  · refine ⟨_, cap, rfl, .inr ⟨g, 0, rfl, hY g (h.lt g rfl).1 (h.lt g rfl).2, fun j hj => ?_⟩⟩
    rw [Nat.zero_add, h.cellAt j (by omega)]; simp [csN, hj]
end Go.Proofs.Ytoelaemneoabfaa
