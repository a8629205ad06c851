/-
  The device and its reference: when one stands for the other.
-/
import Derived.Test.YtoelaemneoabfaaRO
import Derived.Test.YtoelaemneoabfaaLL
namespace Go.Proofs.Ytoelaemneoabfaa
open Go.RowKit

structure Sim (S : St) (R : Rf) : Prop where
  size : S.size = (R.last.length : Int)
  last : ∀ (i : Nat), i < R.last.length → R.last[i]?.getD [] = pad (S.fin i).2
  at' : R.at' = S.wait.map (·.1)
  data : R.data = S.wait.map (fun x => pad x.2)
  off : R.off = S.off
  fuse : S.off = false → R.fuse = S.fuse
  keep : S.off = false → R.keep = S.keep
  cmds : R.cmds = S.done
theorem lastD_eq (L : List M.Wr) (i : Int) (d : M.Wr) : ∀ m, m ≤ L.length → lastD (L.map (·.1)) (L.map fun x => pad x.2) i (pad d.2) m = pad (M.lastW (L.take m) i d).2
  | 0, _ => by simp [lastD, M.lastW]
  | m + 1, h => by
    have hm : m < L.length := by omega
    rw [List.take_succ_eq_append_getElem hm, M.lastW_snoc]
    unfold lastD
    simp only [List.getElem?_map, List.getElem?_eq_getElem hm, Option.map_some, Option.getD_some]
    split
    · rfl
    · exact lastD_eq L i d m (by omega)
theorem Sim.check {S : St} {R : Rf} (h : Sim S R) (i : Int) : rCheck R i = check S i := by
  unfold rCheck Ytoelaemneoabfaa.check
  rw [h.off, h.size]
theorem Sim.read {S : St} {R : Rf} (h : Sim S R) (i : Int) : rRead R i = read S i := by
  unfold rRead Ytoelaemneoabfaa.read
  rw [h.check i]
  split
  · rename_i hc
    obtain ⟨_, h0, h1⟩ := check_in hc
    obtain ⟨n, rfl⟩ : ∃ n : Nat, i = (n : Int) := ⟨i.toNat, by omega⟩
    have hn : n < R.last.length := by have := h.size; omega
    rw [Int.toNat_natCast, h.last n hn, h.at', h.data, List.length_map, lastD_eq _ _ _ _ (Nat.le_refl _), List.take_length]
  · rfl
theorem Sim.fold {S : St} {R : Rf} (h : Sim S R) (hs : ∀ x ∈ S.wait, 0 ≤ x.1 ∧ x.1 < S.size) (K : List Int) (i : Nat) (hi : i < R.last.length) :
    ∀ m, m ≤ S.wait.length → (fold K R.at' R.data R.last m)[i]?.getD [] = pad (stl S.fin K S.wait m i).2
  | 0, _ => h.last i hi
  | m + 1, hm' => by
    have hm : m < S.wait.length := by omega
    have ih := Sim.fold h hs K i hi m (by omega)
    unfold Ytoelaemneoabfaa.fold stl
    split
    · have e1 : R.at'[m]?.getD 0 = S.wait[m].1 := by rw [h.at']; simp [hm]
      have e2 : R.data[m]?.getD [] = pad S.wait[m].2 := by rw [h.data]; simp [hm]
      have e3 : S.wait[m]?.getD (0, []) = S.wait[m] := by simp [hm]
      rw [e1, e2, e3]
      obtain ⟨q0, q1⟩ := hs _ (List.getElem_mem hm)
      generalize S.wait[m] = x at *
      unfold put
      by_cases hq : x.1 = (i : Int)
      · rw [if_pos hq.symm, hq, Int.toNat_natCast]
        simp [fold_length, hi]
      · rw [if_neg (fun e => hq e.symm), List.getElem?_set_ne (by omega)]
        exact ih
    · exact ih
theorem Sim.blow {N : Nat} {S : St} {R : Rf} (h : Sim S R) (g : Good N S) (ho : S.off = false) (K : List Int) : Sim (blow S K) (rFail R K) := by
  unfold Ytoelaemneoabfaa.blow rFail
  rw [if_neg (by simp [ho])]
  refine ⟨by simpa [settle, fold_length] using h.size, ?_, rfl, rfl, rfl, fun e => by simp at e, fun e => by simp at e, h.cmds⟩
  intro i hi
  have hl : R.at'.length = S.wait.length := by rw [h.at', List.length_map]
  rw [hl]
  exact h.fold g.sec K i (by simpa [fold_length] using hi) _ (Nat.le_refl _)
theorem Sim.tick {N : Nat} {S : St} {R : Rf} (h : Sim S R) (g : Good N S) (ho : S.off = false) (hf : S.fuse ≠ 1) : Sim (tick S) (rTick R) := by
  refine ⟨h.size, h.last, h.at', h.data, h.off, fun _ => ?_, h.keep, ?_⟩
  · have := h.fuse ho
    have := g.fuse0
    simp only [rTick, Ytoelaemneoabfaa.tick]
    split <;> split <;> omega
  · simp only [rTick, Ytoelaemneoabfaa.tick, h.cmds]
theorem Sim.step {N : Nat} {S : St} {R : Rf} (h : Sim S R) (g : Good N S) (ho : S.off = false) : Sim (command S) (rStep R) := by
  unfold command rStep
  rw [h.fuse ho]
  split
  · rw [h.keep ho]; exact h.blow g ho _
  · rename_i hf; exact h.tick g ho hf
theorem Sim.sync {N : Nat} {S : St} {R : Rf} (h : Sim S R) (g : Good N S) : Sim (sync S) (rSync R) ∧ rSyncE R = syncE S := by
  unfold Ytoelaemneoabfaa.sync rSync rSyncE syncE
  rw [h.off]
  cases ho : S.off with
  | true => exact ⟨h, rfl⟩
  | false =>
    simp only [Bool.false_eq_true, if_false]
    rw [h.fuse ho]
    refine ⟨?_, rfl⟩
    split
    · exact h.step g ho
    · rename_i hf
      have h' := h.tick g ho hf
      refine ⟨by simpa [settle, Ytoelaemneoabfaa.tick, fold_length] using h.size, ?_, rfl, rfl, ?_, h'.fuse, h'.keep, h'.cmds⟩
      · intro i hi
        have hl : R.at'.length = S.wait.length := by rw [h.at', List.length_map]
        simp only [hl]
        exact h.fold g.sec [1] i (by simpa [fold_length] using hi) _ (Nat.le_refl _)
      · exact h'.off
theorem Sim.write {N : Nat} {S : St} {R : Rf} (h : Sim S R) (g : Good N S) (i : Int) (t : M.Tx) : Sim (write S i t) (rWrite R i t) ∧ rWriteE R i t = writeE S i t := by
  unfold Ytoelaemneoabfaa.write rWrite rWriteE writeE
  rw [h.check i]
  by_cases hc : Ytoelaemneoabfaa.check S i ≠ 0
  · rw [if_pos hc, if_pos hc, if_pos hc, if_pos hc]; exact ⟨h, rfl⟩
  · rw [if_neg hc, if_neg hc, if_neg hc, if_neg hc]
    by_cases ht : 256 < t.length
    · rw [if_pos ht, if_pos ht, if_pos ht, if_pos ht]; exact ⟨h, rfl⟩
    · obtain ⟨ho, _, _⟩ := check_in (show Ytoelaemneoabfaa.check S i = 0 by simpa using hc)
      rw [if_neg ht, if_neg ht, if_neg ht, if_neg ht, h.fuse ho]
      refine ⟨?_, rfl⟩
      by_cases hf : S.fuse = 1
      · rw [if_pos hf, if_pos hf]; exact h.step g ho
      · rw [if_neg hf, if_neg hf]
        have h' := h.tick g ho hf
        exact ⟨h.size, h.last, by simp [h.at'], by simp [h.data], h'.off, h'.fuse, h'.keep, h'.cmds⟩
def rFuse (R : Rf) (n : Int) (K : List Int) : Rf := if R.off then R else { R with fuse := max n 1, keep := K }
def rOn (R : Rf) : Rf := { R with off := false, fuse := 0, keep := [] }
def rBlow (R : Rf) (K : List Int) : Rf := if R.off then R else rFail R K
theorem Sim.fuseTo {S : St} {R : Rf} (h : Sim S R) (n : Int) (K : List Int) : Sim (Ytoelaemneoabfaa.fuse S n K) (rFuse R n K) := by
  unfold rFuse Ytoelaemneoabfaa.fuse
  rw [h.off]
  cases ho : S.off with
  | true => exact ⟨h.size, h.last, h.at', h.data, h.off.trans ho, fun e => by simp at e, fun e => by simp at e, h.cmds⟩
  | false => exact ⟨h.size, h.last, h.at', h.data, rfl, fun _ => rfl, fun _ => rfl, h.cmds⟩
theorem Sim.on {S : St} {R : Rf} (h : Sim S R) : Sim (Ytoelaemneoabfaa.on S) (rOn R) := ⟨h.size, h.last, h.at', h.data, rfl, fun _ => rfl, fun _ => rfl, h.cmds⟩
theorem Sim.blowTo {N : Nat} {S : St} {R : Rf} (h : Sim S R) (g : Good N S) (K : List Int) : Sim (Ytoelaemneoabfaa.blow S K) (rBlow R K) := by
  unfold rBlow
  rw [h.off]
  cases ho : S.off with
  | true => rw [Ytoelaemneoabfaa.blow, if_pos ho]; exact h
  | false => exact h.blow g ho K
def rNew (n : Nat) : Rf := { last := List.replicate n (pad []), at' := [], data := [], off := false, fuse := 0, keep := [], cmds := 0 }
theorem sim_new (n : Nat) : Sim (new n) (rNew n) := by
  refine ⟨by simp [new, rNew], ?_, rfl, rfl, rfl, fun _ => rfl, fun _ => rfl, rfl⟩
  intro i hi
  simp [rNew] at hi
  simp [rNew, new, hi]
theorem GoodR.more {N M : Nat} {R : Rf} (g : GoodR N R) (h : N ≤ M) (hM : M ≤ 1000) : GoodR M R := ⟨hM, g.ne, g.few, g.len, by have := g.wait; omega, g.sec, g.keep, g.fuse0, g.fuse, g.cmds0, by have := g.cmds; omega⟩
theorem GoodR.fuseTo {N : Nat} {R : Rf} (g : GoodR N R) (n : Int) (K : List Int) (hn : n ≤ 9223372036854775807) (hK : K.length ≤ 1000) : GoodR N (rFuse R n K) := by
  unfold rFuse
  split
  · exact g
  · exact ⟨g.n, g.ne, g.few, g.len, g.wait, g.sec, hK, by simp; omega, by simp; omega, g.cmds0, g.cmds⟩
theorem GoodR.on {N : Nat} {R : Rf} (g : GoodR N R) : GoodR N (rOn R) := ⟨g.n, g.ne, g.few, g.len, g.wait, g.sec, by simp [rOn], by simp [rOn], by simp [rOn], g.cmds0, g.cmds⟩
theorem GoodR.blowTo {N : Nat} {R : Rf} (g : GoodR N R) (K : List Int) : GoodR N (rBlow R K) := by
  unfold rBlow
  split
  · exact g
  · exact g.fail K
theorem goodR_new (n : Nat) (h1 : 1 ≤ n) (h2 : n ≤ 4096) : GoodR 0 (rNew n) := ⟨by omega, by simp [rNew]; omega, by simp [rNew]; omega, rfl, by simp [rNew], by intro m hm; simp [rNew] at hm, by simp [rNew], by simp [rNew], by simp [rNew], by simp [rNew], by simp [rNew]⟩
end Go.Proofs.Ytoelaemneoabfaa
