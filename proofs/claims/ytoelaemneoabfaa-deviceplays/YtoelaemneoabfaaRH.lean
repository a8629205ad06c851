/-
  The reference of layer 3: Fail, walked.
-/
import Derived.Test.YtoelaemneoabfaaRG
import Derived.Test.YtoelaemneoabfaaH
import Derived.Deep.MidRow
import Derived.Laws.OwnMore
namespace Go.Proofs.Ytoelaemneoabfaa
open Go.RowKit

def csT (L : List M.Tx) : List Value := L.map fun t => .string (M.bs t)
theorem csT_length (L : List M.Tx) : (csT L).length = L.length * 1 := by simp [csT]
theorem csT_one (L : List M.Tx) : ∀ u ∈ csT L, u.oneCell' = true := by
  intro u hu
  simp only [csT, List.mem_map] at hu
  obtain ⟨e, _, rfl⟩ := hu
  rfl
theorem info9 : (Try.prog.info? 9).map (fun i => (i.zero, i.size, i.bytes)) = some (some (.string ⟨#[]⟩), 1, 16) := by kernel_rfl
theorem info31 : (Try.prog.info? 31).map (·.size) = some 7 := by kernel_rfl
/-- A copy of a list of texts, and of numbers. -/
theorem cpT {Y : Nat → Prop} {w : World} {v : Value} {L : List M.Tx} (h : SeesT Y w v L) (hL : L.length ≤ 100000) :
    ∃ v' w', (Builtin.append_ #[28, 28] 28 #[.slice (some ⟨w.heap.size, 0, none⟩) 0 0, v]).run Try.prog (w.alloc (.cells #[] 9)) = .ok v' w' ∧ w'.ownsRow w.heap.size 9 1 v' L.length (csT L) ∧ Bel w w' := by
  obtain ⟨i0, hi, hz0, hz1, hz2⟩ := info_parts info9
  have hown : (w.alloc (.cells #[] 9)).ownsRow w.heap.size 9 1 (.slice (some ⟨w.heap.size, 0, none⟩) 0 0) 0 [] := World.ownsRow_made w #[] 0 (Nat.le_refl _) (Nat.zero_le _) (by simp)
  have hA : Bel w (w.alloc (.cells #[] 9)) := Bel.al (Below.refl _ _) _
  obtain ⟨a, cap, rfl, ⟨rfl, rfl, rfl⟩ | ⟨g, off, rfl, _, hc⟩⟩ := h
  · exact ⟨_, _, run_append_owned_none (P := Try.prog) _ w.heap.size 28 28 9 i0 1 Try.underlying28 hi _ 0 [] hown, hown, hA⟩
  · obtain ⟨v', w', h1, h2, h3, _, h4⟩ := run_append_own_at (P := Try.prog) _ w.heap.size 28 28 9 i0 _ 1 16 Try.underlying28 hi hz0 hz1 hz2 rfl (by decide) _ 0 [] hown ⟨g, off, none⟩ L.length cap (csT L) (csT_length L) (by
      intro j u hj
      obtain ⟨hjl, hj2⟩ := List.getElem?_eq_some_iff.1 hj
      have hjm : j < L.length := by rw [csT_length] at hjl; omega
      rw [add_lit]
      exact Lib.cell?_alloc_some _ (by rw [hc j hjm, ← hj2]; simp [csT])) (csT_one _) (by unfold maxLen; omega) (by omega) (by simp)
    rw [Nat.zero_add, List.nil_append] at h2
    exact ⟨v', w', h1, h2, hA.grown h3 (by simp) (by intro k hk; simp [Value.ownBlock] at hk; omega)⟩
theorem cpN {Y : Nat → Prop} {w : World} {v : Value} {L : List Int} (h : SeesN Y w v L) (hL : L.length ≤ 100000) :
    ∃ v' w', (Builtin.append_ #[29, 29] 29 #[.slice (some ⟨w.heap.size, 0, none⟩) 0 0, v]).run Try.prog (w.alloc (.cells #[] 3)) = .ok v' w' ∧ w'.ownsRow w.heap.size 3 1 v' L.length (csN L) ∧ Bel w w' := by
  obtain ⟨i0, hi, hz0, hz1, hz2⟩ := info_parts info3
  have hown : (w.alloc (.cells #[] 3)).ownsRow w.heap.size 3 1 (.slice (some ⟨w.heap.size, 0, none⟩) 0 0) 0 [] := World.ownsRow_made w #[] 0 (Nat.le_refl _) (Nat.zero_le _) (by simp)
  have hA : Bel w (w.alloc (.cells #[] 3)) := Bel.al (Below.refl _ _) _
  obtain ⟨a, cap, rfl, ⟨rfl, rfl, rfl⟩ | ⟨g, off, rfl, _, hc⟩⟩ := h
  · exact ⟨_, _, run_append_owned_none (P := Try.prog) _ w.heap.size 29 29 3 i0 1 Try.underlying29 hi _ 0 [] hown, hown, hA⟩
  · obtain ⟨v', w', h1, h2, h3, _, h4⟩ := run_append_own_at (P := Try.prog) _ w.heap.size 29 29 3 i0 _ 1 8 Try.underlying29 hi hz0 hz1 hz2 rfl (by decide) _ 0 [] hown ⟨g, off, none⟩ L.length cap (csN L) (csN_length L) (by
      intro j u hj
      obtain ⟨hjl, hj2⟩ := List.getElem?_eq_some_iff.1 hj
      have hjm : j < L.length := by rw [csN_length] at hjl; omega
      rw [add_lit]
      exact Lib.cell?_alloc_some _ (by rw [hc j hjm, ← hj2]; simp [csN])) (csN_one _) (by unfold maxLen; omega) (by omega) (by simp)
    rw [Nat.zero_add, List.nil_append] at h2
    exact ⟨v', w', h1, h2, hA.grown h3 (by simp) (by intro k hk; simp [Value.ownBlock] at hk; omega)⟩
/-- 'append' of whatever, at a plain region's list. -/
theorem appL {ops : Array Oper} {rest : List Oper} {o : Oper} {a : Go.Act} {Q : Exit → Go.Act → World → Prop} {W W' : World} {t : TypeId} {v xv v' : Value} (hgd : o.guard = none) (s x : Operand)
    (ho : o.op = .call { callee := .builtin .append, args := #[s, x], argTypes := #[t, t] }) (hs : a.eval s = v) (hx : a.eval x = xv) (hr : (Builtin.append_ #[t, t] o.type #[v, xv]).run Try.prog W = .ok v' W')
    (h : wpList Try.prog ops Q rest (a.put o.dst v') W') : wpList Try.prog ops Q (o :: rest) a W :=
  wpList_plain hgd fun _ hK => by
    unfold Oper.wp execOp
    simp only [ho, resolve, invoke, builtin, Sem.run_bind, Sem.run_pure, Result.andThen_ok, List.map_toArray, List.map_cons, List.map_nil, hs, hx, hr]
    exact hK _ _ h
end Go.Proofs.Ytoelaemneoabfaa
