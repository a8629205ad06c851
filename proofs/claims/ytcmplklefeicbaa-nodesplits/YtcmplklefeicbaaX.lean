/-
  What the law NodeTurned's pages hold.
-/
import Derived.Test.YtcmplklefeicbaaU
namespace Go.Proofs.Ytcmplklefeicbaa
open Go.RowKit

/-- A leaf of keys that are their own values: those of ks. -/
structure TI (p : M.Pg) (ks : List (List UInt8)) : Prop where
  kind : p.kind = 3
  level : p.level = 0
  high : p.high = []
  up : M.Up M.cfS p.es
  len : p.es.length ≤ ks.length
  each : ∀ e ∈ p.es, e.1.length ≤ 10 ∧ e.2 = (e.1, false)
  mem : ∀ k, (∃ e ∈ p.es, e.1 = k) ↔ k ∈ ks
theorem ti_new : TI ⟨0, 3, 0, 0, [], []⟩ [] := ⟨rfl, rfl, rfl, List.Pairwise.nil, by simp, by simp, by simp⟩
theorem TI.sm {p : M.Pg} {ks : List (List UInt8)} (h : TI p ks) (hk : ks.length ≤ 20) : Sm p := by
  refine ⟨by rw [h.high]; simp, by have := h.len; omega, fun e he => ?_⟩
  obtain ⟨h1, h2⟩ := h.each e he
  rw [h2]
  exact ⟨by omega, by show e.1.length ≤ 1000; omega⟩
theorem szs_le23 (L : List M.En) (h : ∀ e ∈ L, e.1.length ≤ 10 ∧ e.2 = (e.1, false)) : M.szs L ≤ L.length * 23 := by
  induction L with
  | nil => simp [M.szs]
  | cons e L ih =>
    have h1 := ih (fun x hx => h x (by simp [hx]))
    obtain ⟨h2, h3⟩ := h e (by simp)
    have h4 : e.2.1.length = e.1.length := by rw [h3]
    simp only [M.szs, M.szE, List.length_cons]; omega
/-- One more key. -/
theorem TI.ins {p : M.Pg} {ks : List (List UInt8)} (h : TI p ks) (hk : ks.length ≤ 19) (k : List UInt8) (hl : k.length ≤ 10) :
    (M.insE p (k, k, false) = 12 ∧ TI p (k :: ks)) ∨ (M.insE p (k, k, false) = 0 ∧ TI (M.insP p (k, k, false)) (k :: ks)) := by
  have hc : M.cov p.high k = true := by rw [h.high]; rfl
  have h1 : ¬ 64 < k.length := by omega
  have h2 : ¬ 100 < k.length := by omega
  by_cases hh : M.has M.cfS p.es k = true
  · left
    refine ⟨by simp [M.insE, h1, h2, hc, hh], ⟨h.kind, h.level, h.high, h.up, by have := h.len; simp; omega, h.each, fun k' => ?_⟩⟩
    rw [h.mem]
    constructor
    · intro hm; simp [hm]
    · intro hm
      rcases List.mem_cons.1 hm with rfl | hm
      · obtain ⟨v, hv⟩ := (M.has_iff M.ordS p.es h.up k').1 hh
        exact (h.mem k').1 ⟨_, hv, rfl⟩
      · exact hm
  · right
    have hh' : M.has M.cfS p.es k = false := by simpa using hh
    have hfree : ¬ M.free p < (M.szE (k, k, false) : Int) := by
      have h3 := szs_le23 p.es h.each
      have h4 := h.len
      have h5 : M.szE (k, k, false) ≤ 23 := by simp only [M.szE]; omega
      have h6 : p.es.length * 23 ≤ 19 * 23 := Nat.mul_le_mul_right _ (by omega)
      simp only [M.free, h.high, List.length_nil]
      omega
    have hE : M.insE p (k, k, false) = 0 := by simp [M.insE, h1, h2, hc, hh', hfree]
    have hP : M.insP p (k, k, false) = { p with es := M.set M.cfS p.es k (k, false) } := by simp [M.insP, hE]
    rw [hP]
    refine ⟨hE, ⟨h.kind, h.level, h.high, M.up_set M.ordS _ h.up _ _, ?_, ?_, fun k' => ?_⟩⟩
    · have := M.set_length (cf := M.cfS) p.es k (k, false)
      rw [hh'] at this
      have := h.len
      simp only [List.length_cons]
      simp at *; omega
    · intro e he
      rcases (M.mem_set M.ordS p.es h.up k (k, false) e).1 he with rfl | ⟨he, _⟩
      · exact ⟨hl, rfl⟩
      · exact h.each e he
    · constructor
      · rintro ⟨e, he, rfl⟩
        rcases (M.mem_set M.ordS p.es h.up k (k, false) e).1 he with rfl | ⟨he, _⟩
        · simp
        · exact List.mem_cons_of_mem _ ((h.mem _).1 ⟨e, he, rfl⟩)
      · intro hm
        by_cases hkk : k' = k
        · exact ⟨(k, k, false), (M.mem_set M.ordS p.es h.up k (k, false) _).2 (.inl rfl), hkk.symm⟩
        · obtain ⟨e, he, rfl⟩ := (h.mem k').2 (by rcases List.mem_cons.1 hm with h | h; exact absurd h hkk; exact h)
          exact ⟨e, (M.mem_set M.ordS p.es h.up k (k, false) e).2 (.inr ⟨he, hkk⟩), rfl⟩
/-- The keys alone tell them. -/
theorem TI.ext {p q : M.Pg} {ks ks' : List (List UInt8)} (h : TI p ks) (h' : TI q ks') (hm : ∀ k, k ∈ ks ↔ k ∈ ks') : p.es = q.es := by
  refine M.up_ext M.ordS _ _ h.up h'.up fun e => ?_
  have one : ∀ {p q : M.Pg} {ks ks' : List (List UInt8)}, TI p ks → TI q ks' → (∀ k, k ∈ ks ↔ k ∈ ks') → e ∈ p.es → e ∈ q.es := fun h h' hm he => by
    obtain ⟨e', he', hk⟩ := (h'.mem e.1).2 ((hm e.1).1 ((h.mem e.1).1 ⟨e, he, rfl⟩))
    have h2 := (h.each e he).2
    have h3 := (h'.each e' he').2
    have : e' = e := by
      obtain ⟨a, b⟩ := e
      obtain ⟨a', b'⟩ := e'
      simp only at hk h2 h3
      subst hk
      rw [h2, h3]
    rwa [this] at he'
  exact ⟨one h h' hm, one h' h (fun k => (hm k).symm)⟩
theorem TI.rises {p : M.Pg} {ks : List (List UInt8)} (h : TI p ks) : M.rises p.high p.es = true := by
  refine M.rises_yes fun j hj => ?_
  unfold M.okAt
  rw [h.high]
  simp only [Bool.and_eq_true, Bool.or_eq_true, decide_eq_true_eq]
  refine ⟨?_, rfl⟩
  by_cases h0 : j = 0
  · exact .inl h0
  · right
    have := List.pairwise_iff_getElem.1 h.up (j - 1) j (by omega) hj (by omega)
    rw [M.cfS_lt] at this
    simpa [hj, show j - 1 < p.es.length by omega] using this
end Go.Proofs.Ytcmplklefeicbaa
