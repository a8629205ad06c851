/-
  A statement that draws its order: its operations taken first in the text's order, the side conditions as Bools that reckon themselves.
-/
import Derived.Test.YtcmplklefeicbaaQT
namespace Go.Proofs.Ytcmplklefeicbaa
open Go.RowKit
section
variable {P : Program} {ops : Array Oper} {Q : Exit → Act → World → Prop} {md : Region.Mode} {S : World → Prop} {m : Nat}
/-- Each operation waits for earlier ones alone. -/
def fwdB (md : Region.Mode) (ops : Array Oper) : Bool := (List.range ops.size).all fun p => match ops[p]? with
  | some o => o.after.all fun e => !(Region.binds md e) || decide (e.on < p)
  | none => true
theorem Waits.lt (hf : fwdB md ops = true) {p i : Nat} (h : Waits md ops p i) : i < p := by
  obtain ⟨o, ho, e, he, hbd, rfl⟩ := h
  have hp : p < ops.size := (Array.getElem?_eq_some_iff.1 ho).1
  have := List.all_eq_true.1 hf p (List.mem_range.2 hp)
  rw [ho] at this
  simp only [Array.all_eq_true'] at this
  have := this e he
  simpa [hbd] using this
theorem Behind.gt (hf : fwdB md ops = true) {i q : Nat} (h : Behind md ops i q) : i < q := by
  induction h with
  | one h => exact h.lt hf
  | more _ h ih => exact Nat.lt_trans ih (h.lt hf)
/-- None behind i has come up. -/
def openB (ops : Array Oper) (i : Nat) (l : Array Bool) : Bool := (List.range ops.size).all fun q => decide (q ≤ i) || !(l.getD q true)
theorem Kept.of_open (hf : fwdB md ops = true) {i : Nat} {l : Array Bool} (h : openB ops i l = true) : Kept md ops i l := fun q hb _ => by
  have hq := List.all_eq_true.1 h q (List.mem_range.2 hb.lt)
  have hg := hb.gt hf
  simp only [Bool.or_eq_true, decide_eq_true_eq, Bool.not_eq_true'] at hq
  rcases hq with hq | hq
  · omega
  · exact hq
def waitsB (md : Region.Mode) (ops : Array Oper) (p i : Nat) : Bool := match ops[p]? with
  | some o => o.after.any fun e => Region.binds md e && (e.on == i)
  | none => false
theorem waits_of {p i : Nat} (h : waitsB md ops p i = true) : Waits md ops p i := by
  unfold waitsB at h
  split at h
  · rename_i o ho
    rw [Array.any_eq_true'] at h
    obtain ⟨e, he, h⟩ := h
    simp only [Bool.and_eq_true, beq_iff_eq] at h
    exact ⟨o, ho, e, he, h.1, h.2⟩
  · cases h
/-- A row of operations, each of which waits for the one ahead. -/
def chainB (md : Region.Mode) (ops : Array Oper) : Nat → List Nat → Bool
  | _, [] => true
  | i, p :: ps => waitsB md ops p i && chainB md ops p ps
theorem behind_more {i p : Nat} (h : Behind md ops i p) : ∀ (ps : List Nat) (_ : chainB md ops p ps = true), Behind md ops i (ps.getLastD p)
  | [], _ => h
  | q :: ps, hc => by
    simp only [chainB, Bool.and_eq_true] at hc
    have := behind_more (h.more (waits_of hc.1)) ps hc.2
    cases ps <;> exact this
termination_by ps => ps.length
theorem behind_chain {i p : Nat} {ps : List Nat} (h : chainB md ops i (p :: ps) = true) (hm : ps.getLastD p = m) : Behind md ops i m := by
  simp only [chainB, Bool.and_eq_true] at h
  rw [← hm]
  exact behind_more (.one (waits_of h.1)) ps h.2
/-- An operation is taken first. -/
theorem take_next {i : Nat} {oi : Oper} {n : Nat} {l : Array Bool} {a : Act} {w : World} (v : Value) (ps : List Nat) (hf : fwdB md ops = true) (hs : Region.noSelect ops = true) (hi : ops[i]? = some oi) (hfr : Region.free md ops l i = true) (hr : (Region.ready md ops l).contains i = true)
    (hm : (match ps with | [] => false | p :: ps => chainB md ops i (p :: ps) && (ps.getLastD p == m)) = true) (ho : openB ops i l = true)
    (hQ : ∀ c a w, Q (.panic c) (a.put oi.dst v) w → Q (.panic c) a w) (hy : YieldsIf P ops S oi v a) (hS : S w)
    (h : untilM P md ops Q S m n (l.setIfInBounds i true) (a.put oi.dst v) w) : untilM P md ops Q S m (n + 1) l a w := by
  cases ps with
  | nil => cases hm
  | cons p ps =>
    simp only [Bool.and_eq_true, beq_iff_eq] at hm
    exact take_first hi hs hfr hr hQ (behind_chain hm.1 hm.2) (Kept.of_open hf ho) hy hS h
end
end Go.Proofs.Ytcmplklefeicbaa
