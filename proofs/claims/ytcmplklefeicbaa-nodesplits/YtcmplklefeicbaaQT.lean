/-
  A statement that draws its order and stores, at its end, into the cells that it has loaded: the loads may be taken first.
-/
import Derived.Test.YtcmplklefeicbaaW
import Derived.OrdersHeld
namespace Go.Proofs.Ytcmplklefeicbaa
open Go.RowKit
section
variable {P : Program} {ops : Array Oper} {Q : Exit → Act → World → Prop} {md : Region.Mode} {S : World → Prop} {m : Nat}
/-- Whatever comes up next: as long as the marker m hasn't come up, S is shown behind it. -/
def untilM (P : Program) (md : Region.Mode) (ops : Array Oper) (Q : Exit → Act → World → Prop) (S : World → Prop) (m : Nat) : Nat → Array Bool → Act → World → Prop
  | 0, l, a, w => Region.ready md ops l = [] ∧ Q .normal a w
  | n + 1, l, a, w => (Region.ready md ops l = [] → Q .normal a w) ∧
    ∀ j ∈ Region.ready md ops l, wpOp P ops Q j (fun a' w' => ((l.setIfInBounds j true).getD m true = false → S w') ∧ untilM P md ops Q S m n (l.setIfInBounds j true) a' w') a w
theorem any_of_until : ∀ (n : Nat) (l : Array Bool) (a : Act) (w : World), untilM P md ops Q S m n l a w → wpAny P md ops Q n l a w
  | 0, _, _, _, h => h
  | n + 1, _, _, _, h => ⟨h.1, fun j hj => wpOp_mono (fun a' w' k => any_of_until n _ a' w' k.2) (h.2 j hj)⟩
/-- One waits for another. -/
def Waits (md : Region.Mode) (ops : Array Oper) (p i : Nat) : Prop := ∃ o, ops[p]? = some o ∧ ∃ e ∈ o.after, Region.binds md e = true ∧ e.on = i
theorem Waits.not_ready {p i : Nat} (h : Waits md ops p i) {l : Array Bool} (hl : l.getD i true = false) : p ∉ Region.ready md ops l := by
  intro hp
  obtain ⟨_, o, ho, hall⟩ := mem_ready.1 hp
  obtain ⟨o', ho', e, he, hb, rfl⟩ := h
  rw [ho] at ho'
  cases ho'
  have := hall e he hb
  rcases Nat.lt_or_ge e.on l.size with h' | h'
  · simp [h'] at hl this; rw [hl] at this; cases this
  · simp [Array.getElem?_eq_none h'] at this
theorem open_of_set {l : Array Bool} {j k : Nat} (h : (l.setIfInBounds j true).getD k true = false) : j ≠ k ∧ l.getD k true = false := by
  by_cases hjk : j = k
  · subst hjk
    rcases Nat.lt_or_ge j l.size with h' | h'
    · simp [h'] at h
    · simp [h'] at h
  · exact ⟨hjk, by rw [getD_set_ne true hjk] at h; exact h⟩
/-- One waits for another, at whatever remove. -/
inductive Behind (md : Region.Mode) (ops : Array Oper) (i : Nat) : Nat → Prop
  | one {p : Nat} : Waits md ops p i → Behind md ops i p
  | more {p q : Nat} : Behind md ops i p → Waits md ops q p → Behind md ops i q
/-- As long as i is open all behind it are. -/
def Kept (md : Region.Mode) (ops : Array Oper) (i : Nat) (l : Array Bool) : Prop := ∀ q, Behind md ops i q → l.getD i true = false → l.getD q true = false
theorem Kept.not_ready {i q : Nat} {l : Array Bool} (hk : Kept md ops i l) (hb : Behind md ops i q) (hi : l.getD i true = false) : q ∉ Region.ready md ops l := by
  cases hb with
  | one h => exact h.not_ready hi
  | more h k => exact k.not_ready (hk _ h hi)
theorem Kept.step {i j : Nat} {l : Array Bool} (hk : Kept md ops i l) (hj : j ∈ Region.ready md ops l) : Kept md ops i (l.setIfInBounds j true) := fun q hb h => by
  obtain ⟨_, h1⟩ := open_of_set h
  have : j ≠ q := fun e => hk.not_ready hb h1 (e ▸ hj)
  rw [getD_set_ne true this]; exact hk q hb h1
theorem Kept.start {i n : Nat} (h : ∀ q, Behind md ops i q → q < n) : Kept md ops i (Array.replicate n false) := fun q hb _ => by
  simp [h q hb]
/-- The load may be taken first. -/
theorem until_take {i : Nat} {oi : Oper} {v : Value} (hi : ops[i]? = some oi) (hsel : ∀ (j : Nat) (o : Oper) cs b, ops[j]? = some o → o.op ≠ .select cs b) (hQ : ∀ c a w, Q (.panic c) (a.put oi.dst v) w → Q (.panic c) a w) (hm : Behind md ops i m) :
    ∀ (n : Nat) (l : Array Bool) (a : Act) (w : World), Kept md ops i l →
      (∀ j oj, ops[j]? = some oj → j ≠ i → l.getD j true = false → (∀ e ∈ oj.after, Region.binds md e = true → e.on ≠ i) → oi.apart ops oj = true) →
      i ∈ Region.ready md ops l → YieldsIf P ops S oi v a → S w → untilM P md ops Q S m n (l.setIfInBounds i true) (a.put oi.dst v) w → untilM P md ops Q S m (n + 1) l a w := by
  intro n
  induction n with
  | zero =>
    intro l a w hc _ hr hy hS H
    refine ⟨fun h => (by rw [h] at hr; cases hr), fun j hj => ?_⟩
    by_cases hji : j = i
    · subst hji; exact hy.wpOp hi hS ⟨fun _ => hS, H⟩
    · have := ready_mono hj hji
      rw [H.1] at this
      cases this
  | succ n ih =>
    intro l a w hc hfree hr hy hS H
    have hio := (mem_ready.1 hr).1
    refine ⟨fun h => (by rw [h] at hr; cases hr), fun j hj => ?_⟩
    by_cases hji : j = i
    · subst hji; exact hy.wpOp hi hS ⟨fun _ => hS, H⟩
    · obtain ⟨hjun, oj, hoj, hall⟩ := mem_ready.1 hj
      have hnot : ∀ e ∈ oj.after, Region.binds md e = true → e.on ≠ i := fun e he hb heq => Waits.not_ready (p := j) ⟨oj, hoj, e, he, hb, heq⟩ hio hj
      have hmo := hc m hm hio
      have hjm : j ≠ m := fun e => hc.not_ready hm hio (e ▸ hj)
      have him : i ≠ m := fun e => hc.not_ready hm hio (e ▸ hr)
      have h2 := wpOp_putIf hoj (hfree j oj hoj hji hjun hnot) (fun cs b => hsel i oi cs b hi) (fun cs b => hsel j oj cs b hoj) hQ hy (H.2 j (ready_mono hj hji))
      refine wpOp_mono (fun a' w' h3 => ?_) h2
      have hS' : S w' := h3.2.1 (by rw [getD_set_ne true hjm, getD_set_ne true him]; exact hmo)
      refine ⟨fun _ => hS', ih (l.setIfInBounds j true) a' w' (hc.step hj) (fun k ok hk hki hun hno => hfree k ok hk hki (open_of_set hun).2 hno) (ready_mono hr (Ne.symm hji)) h3.1 hS' ?_⟩
      rw [Array.setIfInBounds_comm _ _ hji]
      exact h3.2.2
theorem Behind.lt {i q : Nat} (h : Behind md ops i q) : q < ops.size := by
  cases h with
  | one h => obtain ⟨o, ho, _⟩ := h; exact (Array.getElem?_eq_some_iff.1 ho).1
  | more _ h => obtain ⟨o, ho, _⟩ := h; exact (Array.getElem?_eq_some_iff.1 ho).1
theorem Kept.begin {i : Nat} : Kept md ops i (Array.replicate ops.size false) := Kept.start (fun _ h => h.lt)
/-- The same, its side conditions as Bools. -/
theorem take_first {i : Nat} {oi : Oper} {v : Value} {n : Nat} {l : Array Bool} {a : Act} {w : World} (hi : ops[i]? = some oi) (hs : Region.noSelect ops = true) (hf : Region.free md ops l i = true) (hr : (Region.ready md ops l).contains i = true)
    (hQ : ∀ c a w, Q (.panic c) (a.put oi.dst v) w → Q (.panic c) a w) (hm : Behind md ops i m) (hk : Kept md ops i l) (hy : YieldsIf P ops S oi v a) (hS : S w)
    (h : untilM P md ops Q S m n (l.setIfInBounds i true) (a.put oi.dst v) w) : untilM P md ops Q S m (n + 1) l a w :=
  until_take hi (Region.noSelect_spec hs) hQ hm n l a w hk (Region.free_spec hi hf) (by simpa using hr) hy hS h
theorem until_ready {rs : List Nat} {n : Nat} {l : Array Bool} {a : Act} {w : World} (hr : Region.ready md ops l = rs) (hne : rs ≠ [])
    (h : ∀ j ∈ rs, wpOp P ops Q j (fun a' w' => ((l.setIfInBounds j true).getD m true = false → S w') ∧ untilM P md ops Q S m n (l.setIfInBounds j true) a' w') a w) : untilM P md ops Q S m (n + 1) l a w :=
  ⟨fun e => absurd (hr.symm.trans e) hne, by rw [hr]; exact h⟩
theorem until_done {l : Array Bool} {a : Act} {w : World} (hr : Region.ready md ops l = []) (h : Q .normal a w) : ∀ n, untilM P md ops Q S m n l a w
  | 0 => ⟨hr, h⟩
  | _ + 1 => ⟨fun _ => h, by rw [hr]; simp⟩
/-- The beginning. -/
theorem region_until {id : Nat} {a : Act} {w : World} (hx : P.follows .mixedOrders = true) (h : untilM P .any ops Q S m ops.size (Array.replicate ops.size false) a w.drew) : (Code.region id ops true).wp P Q a w :=
  wp_region_any hx (any_of_until _ _ _ _ h)
theorem Kept.next {i j : Nat} {l : Array Bool} (hk : Kept md ops i l) (hj : (Region.ready md ops l).contains j = true) : Kept md ops i (l.setIfInBounds j true) := hk.step (by simpa using hj)
end
end Go.Proofs.Ytcmplklefeicbaa
