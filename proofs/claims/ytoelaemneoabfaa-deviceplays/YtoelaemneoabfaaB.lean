/-
  The contract of slices.Backward at writes: its iterator, walked.
-/
import Derived.Test.YtoelaemneoabfaaW
import Derived.RangeFuncNested
import Derived.RangeFuncBound
import Derived.RangeFuncCalls
import Derived.RangeFuncLeaves
import Derived.Shelf.Abstract
import Derived.OwnWalkIn
import Derived.TacticsInMore
import Derived.LoopNIn
import Derived.LoopIn
namespace Go.Proofs.Ytoelaemneoabfaa
open Go.RowKit Go.Shelf
attribute [local go_sem] Oper.semAt_some

/-- The cells from ⟨b, off⟩ on hold the writes of L, two cells each. -/
def RowW (w : World) (b off : Nat) (L : List M.Wr) : Prop := ∀ j (h : j < L.length),
  w.cell? ⟨b, off + j * 2, none⟩ = some (.int .i64 L[j].1) ∧ w.cell? ⟨b, off + j * 2 + 1, none⟩ = some (.string (M.bs L[j].2))
theorem RowW.lt {w : World} {b off : Nat} {L : List M.Wr} (h : RowW w b off L) (hL : 0 < L.length) : b < w.heap.size := block_lt_of_cell (h 0 hL).1
theorem RowW.below {w w' : World} {b off n : Nat} {L : List M.Wr} (h : RowW w b off L) (hb : Below n w w') (hB : b < n) : RowW w' b off L := fun j hj =>
  ⟨(hb.cell (p := ⟨b, off + j * 2, none⟩) hB).trans (h j hj).1, (hb.cell (p := ⟨b, off + j * 2 + 1, none⟩) hB).trans (h j hj).2⟩
/-- What a slice value shows; its memory is of the blocks below n. -/
def ShowsW (n : Nat) (w : World) (v : Value) (L : List M.Wr) : Prop := ∃ a cap, v = .slice a L.length cap ∧ (L = [] ∨ ∃ g off, a = some ⟨g, off, none⟩ ∧ g < n ∧ RowW w g off L)
theorem ShowsW.below {n : Nat} {w w' : World} {v : Value} {L : List M.Wr} (h : ShowsW n w v L) (hb : Below n w w') : ShowsW n w' v L := by
  obtain ⟨a, cap, hv, h | ⟨g, off, ha, hg, hr⟩⟩ := h
  · exact ⟨a, cap, hv, .inl h⟩
  · exact ⟨a, cap, hv, .inr ⟨g, off, ha, hg, hr.below hb hg⟩⟩
def encW (x : Int × M.Wr) : Array Value := #[.int .i64 x.1, .agg #[.int .i64 x.2.1, .string (M.bs x.2.2)]]

set_option maxRecDepth 100000 in
set_option maxHeartbeats 2000000 in
theorem back1 (F : Fence) (n : Nat) (h41 : F.fn 41) (hro : F.round = none) (hn : 1 ≤ n) (l Bs n₀ : Nat) (v : Value) (L : List M.Wr) (hL : L.length ≤ 1000) (J Jx : List (Int × M.Wr) → World → Prop)
    (hY : ∀ pre x W, J pre W → pre.length < L.length → YieldAt F (n - 1) Try.prog l (encW x) W fun e W' =>
      (e = .returned (.bool true) ∧ J (pre ++ [x]) W' ∧ Below n₀ W W') ∨ (e = .returned (.bool false) ∧ Jx (pre ++ [x]) W'))
    (W : World) (hBn : Bs < n₀) (hBs : W.cell? ⟨Bs, 0, none⟩ = some v) (hs : ShowsW n₀ W v L) (h0 : J [] W) :
    CallsIn F n Try.prog 41 #[.func (.yield l) #[] #[], .pointer (some ⟨Bs, 0, none⟩)] W fun e W' => (∃ v, e = .returned v) ∧
      ((∃ ys, ys = M.revs L ∧ J ys W') ∨ (∃ pre, pre <+: M.revs L ∧ Jx pre W')) := by
  obtain ⟨a, cap, rfl, hrow⟩ := hs
  refine callsIn_of_wp Try.func41 rfl h41 ?_ hro
  simp only [Try.ntmps41, List.size_toArray, List.length_cons, List.length_nil, Nat.reduceAdd, Nat.reduceSub, Array.replicate_succ, Array.replicate_zero, List.push_toArray, List.append_toArray, List.nil_append, List.cons_append]
  gi_wp2
  gi_loopw [3] (fun i wr => ∃ m : Nat, m ≤ L.length ∧ i = .int .i64 ((m : Int) - 1) ∧ J ((M.revs L).take (L.length - m)) wr ∧ Below n₀ W wr)
    (fun i _ => (intOf i + 1).toNat)
  case atStart => exact ⟨L.length, Nat.le_refl _, rfl, by simpa using h0, Below.refl _ _⟩
  case round =>
    obtain ⟨m, hm, rfl, hJs, hnx⟩ := hrel
    have hbs := (hnx.cell (p := ⟨Bs, 0, none⟩) hBn).trans hBs
    cases m with
    | zero =>
      have HJ : Hid (J (M.revs L) wr) := by
        have := hJs
        rw [List.take_of_length_le (by rw [M.revs_length]; omega)] at this
        exact this
      clear hJs hY
      gi_wp2
      go_end0
      exact ⟨⟨_, rfl⟩, .inl ⟨_, rfl, HJ.out⟩⟩
    | succ m =>
      obtain ⟨g, off, rfl, hg, hr⟩ : ∃ g off, a = some ⟨g, off, none⟩ ∧ g < n₀ ∧ RowW W g off L := by
        rcases hrow with h | h
        · subst h; simp at hm
        · exact h
      obtain ⟨c1, c2⟩ := (hr.below hnx hg) m (by omega)
      have HR : Hid ((M.revs L).take (L.length - m) = (M.revs L).take (L.length - (m + 1)) ++ [((m : Int), L[m])]) := M.revs_take L m (by omega)
      have HP : Hid ((M.revs L).take (L.length - (m + 1)) ++ [((m : Int), L[m])] <+: M.revs L) := by show _ <+: _; rw [← HR.out]; exact List.take_prefix _ _
      obtain ⟨fn, tmps, assign, body, hy, hR⟩ := hY _ ((m : Int), L[m]) wr hJs (by rw [List.length_take, M.revs_length]; omega)
      unfold encW at hy
      dsimp only at hy
      clear hY hJs
      generalize L[m] = E at *
      have e1 : ((m + 1 : Nat) : Int) - 1 = (m : Int) := by omega
      rw [e1]
      gi_wp2
      refine hR.mono ?_
      rintro e W3 (⟨rfl, hJ3, hk3⟩ | ⟨rfl, hJx3⟩)
      · have HJ3 := hid hJ3
        clear hJ3
        gi_wp2
        go_roundw
        case rel => exact ⟨m, by omega, rfl, by rw [HR.out]; exact HJ3.out, hnx.trans hk3⟩
        case measure => simp [intOf]
      · gi_wp2
        refine bodyPost_ret (results_none rfl _ _ _) rfl ?_
        exact ⟨⟨_, rfl⟩, .inr ⟨_, HP.out, hJx3⟩⟩
theorem back_stops (F : Fence) (n : Nat) (h41 : F.fn 41) (hro : F.round = none) (hn : 1 ≤ n) (Bs n₀ : Nat) (v : Value) (L : List M.Wr) (hL : L.length ≤ 1000) (w : World) (hBn : Bs < n₀) (hn₀ : n₀ ≤ w.heap.size)
    (hBs : w.cell? ⟨Bs, 0, none⟩ = some v) (hs : ShowsW n₀ w v L) :
    SeqStopsK F n Try.prog 41 #[.pointer (some ⟨Bs, 0, none⟩)] encW (Below n₀) (fun ys => ys = M.revs L) (fun pre => pre <+: M.revs L) L.length w := fun l J Jx W hW _ _ hY h0 =>
  back1 F n h41 hro hn l Bs n₀ v L hL J Jx hY W hBn ((hW.cell (p := ⟨Bs, 0, none⟩) (by show Bs < _; omega)).trans hBs) (hs.below (hW.mono hn₀)) h0
set_option maxHeartbeats 1000000 in
theorem backward_in (F : Fence) (n : Nat) (h40 : F.fn 40) (hro : F.round = none) (a : Option Addr) (len cap : Nat) (w : World) :
    CallsIn F n Try.prog 40 #[.slice a len cap] w fun e w' => e = .returned (.func (.func 41) #[] #[.pointer (some ⟨w.heap.size, 0, none⟩)]) ∧ w' = w.alloc (.cells #[.slice a len cap] 59) := by
  refine callsIn_of_wp Try.func40 rfl h40 ?_ hro
  simp only [Try.ntmps40, List.size_toArray, List.length_cons, List.length_nil, Nat.reduceAdd, Nat.reduceSub, Array.replicate_succ, Array.replicate_zero, List.push_toArray, List.append_toArray, List.nil_append, List.cons_append]
  gi_wp2
  go_ret
  exact ⟨rfl, rfl⟩
end Go.Proofs.Ytoelaemneoabfaa
