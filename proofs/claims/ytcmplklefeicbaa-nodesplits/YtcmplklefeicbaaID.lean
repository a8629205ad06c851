/-
  What node and the document answer, side by side: split.
-/
import Derived.Test.YtcmplklefeicbaaIC
namespace Go.Proofs.Ytcmplklefeicbaa
open Go.RowKit
set_option maxRecDepth 100000

theorem least (Q : Nat → Prop) : ∀ n, Q n → ∃ m, m ≤ n ∧ Q m ∧ ∀ j, j < m → ¬ Q j := by
  intro n
  induction n using Nat.strongRecOn with
  | ind n ih =>
    intro h
    by_cases hk : ∃ k, k < n ∧ Q k
    · obtain ⟨k, hk, hq⟩ := hk
      obtain ⟨m, h1, h2, h3⟩ := ih k hk hq
      exact ⟨m, by omega, h2, h3⟩
    · exact ⟨n, Nat.le_refl _, h, fun j hj hq => hk ⟨j, hj, hq⟩⟩
/-- What both halves are, where a right node is split. -/
structure Cut (p q s : M.Pg) : Prop where
  right1 : M.right q = true
  right2 : M.right s = true
  kind1 : q.kind = p.kind
  kind2 : s.kind = p.kind
  len : q.es.length + s.es.length = p.es.length
  pos : 0 < s.es.length
  cov : ∀ h : 0 < s.es.length, M.cov q.high (s.es[0]'h).1 = false
  free : M.free p ≤ M.free q
theorem okAt_of {high : List UInt8} {es : List M.En} (hu : M.Up M.cfS es) (hc : ∀ e ∈ es, M.cov high e.1 = true) : M.rises high es = true := by
  refine M.rises_yes fun j hj => ?_
  unfold M.okAt
  simp only [Bool.and_eq_true, Bool.or_eq_true, decide_eq_true_eq]
  refine ⟨?_, ?_⟩
  · by_cases h0 : j = 0
    · exact .inl h0
    · right
      have := List.pairwise_iff_getElem.1 hu (j - 1) j (by omega) hj (by omega)
      rw [M.cfS_lt] at this
      simpa [hj, show j - 1 < es.length by omega] using this
  · simpa [hj] using hc _ (List.getElem_mem hj)
theorem cov_of_rises {high : List UInt8} {es : List M.En} (h : M.rises high es = true) : ∀ e ∈ es, M.cov high e.1 = true := fun e he => by
  obtain ⟨j, hj, rfl⟩ := List.getElem_of_mem he
  have := List.all_eq_true.1 h j (List.mem_range.2 hj)
  simp only [M.okAt, Bool.and_eq_true, List.getElem?_eq_getElem hj, Option.getD_some] at this
  exact this.2
theorem links_sub {es es' : List M.En} (h : M.links es = true) (hs : ∀ e ∈ es', e ∈ es) (h0 : 0 < es'.length) : M.links es' = true := by
  simp only [M.links, Bool.and_eq_true, decide_eq_true_eq, Bool.not_eq_true'] at *
  refine ⟨h0, ?_⟩
  rw [List.any_eq_false] at *
  exact fun e he => h.2 e (hs e he)
theorem cut_of {p : M.Pg} (hr : M.right p = true) (i : Nat) (h1 : 1 ≤ i) (h2 : i < p.es.length) (r : Int) : Cut p { p with es := p.es.take i, high := (p.es[i]?.getD ([], [], false)).1, right := r } { p with es := p.es.drop i } := by
  have hri : M.rises p.high p.es = true := by simp only [M.right, Bool.and_eq_true] at hr; exact hr.1
  have hrl : p.level ≤ 0 ∨ M.links p.es = true := by simp only [M.right, Bool.and_eq_true, Bool.or_eq_true, decide_eq_true_eq] at hr; exact hr.2
  have hu := up_of_rises hri
  have hcv := cov_of_rises hri
  have hget : p.es[i]?.getD ([], [], false) = p.es[i] := by simp [h2]
  have hlt : ∀ j (hj : j < i), M.ltS (p.es[j]'(by omega)).1 (p.es[i]'h2).1 = true := fun j hj => by
    have := List.pairwise_iff_getElem.1 hu j i (by omega) h2 hj
    rwa [M.cfS_lt] at this
  have hne : (p.es[i]'h2).1 ≠ [] := fun h => by
    have := hlt 0 (by omega)
    rw [h] at this
    cases hx : (p.es[0]'(by omega)).1 with
    | nil => rw [hx] at this; cases this
    | cons a b => rw [hx] at this; cases this
  have hl1 : (p.es.take i).length = i := by rw [List.length_take]; omega
  have hl2 : (p.es.drop i).length = p.es.length - i := List.length_drop
  refine ⟨?_, ?_, rfl, rfl, by show (p.es.take i).length + (p.es.drop i).length = _; omega, by show 0 < (p.es.drop i).length; omega, fun h => ?_, ?_⟩
  · simp only [M.right, hget, Bool.and_eq_true, Bool.or_eq_true, decide_eq_true_eq]
    refine ⟨okAt_of (hu.sublist (List.take_sublist _ _)) (fun e he => ?_), hrl.imp id (fun h => links_sub h (fun e he => List.mem_of_mem_take he) (by omega))⟩
    obtain ⟨j, hj, rfl⟩ := List.getElem_of_mem he
    have hj' : j < i := by omega
    have := hlt j hj'
    simp only [M.cov, List.getElem_take, Bool.or_eq_true]
    exact .inr this
  · simp only [M.right, Bool.and_eq_true, Bool.or_eq_true, decide_eq_true_eq]
    exact ⟨okAt_of (hu.sublist (List.drop_sublist _ _)) (fun e he => hcv e (List.mem_of_mem_drop he)), hrl.imp id (fun h => links_sub h (fun e he => List.mem_of_mem_drop he) (by omega))⟩
  · simp only [hget, M.cov, List.getElem_drop, Nat.add_zero, Bool.or_eq_false_iff]
    refine ⟨?_, M.ltS_irrefl _⟩
    cases hx : (p.es[i]'h2).1 with
    | nil => exact absurd hx hne
    | cons a b => rfl
  · have hsp := szs_split p.es i
    have hd : p.es.drop i = p.es[i] :: p.es.drop (i + 1) := List.drop_eq_getElem_cons h2
    have hz : M.szs (p.es.drop i) = M.szE (p.es[i]'h2) + M.szs (p.es.drop (i + 1)) := by rw [hd, M.szs]
    simp only [M.free, hget]
    simp only [M.szE] at hz
    omega
/-- Both answer q, s and en. -/
def Both2 (p : M.Pg) (r : Int) (q s : M.Pg) (en : Int) : Prop :=
  (∀ x w, Vs w x p.es → Calls Try.prog 18 #[pv p x, .int .i64 r] w fun e w' => ∃ x1 x2, e = .returned (.tuple #[pv q x1, pv s x2, .int .i64 en]) ∧ Vs w' x1 q.es ∧ Vs w' x2 s.es ∧ Bel w w') ∧
    (∀ y w, Vs w y p.es → Calls Try.prog 19 #[pv p y, .int .i64 r] w fun e w' => ∃ x1 x2, e = .returned (.tuple #[pv q x1, pv s x2, .int .i64 en]) ∧ Vs w' x1 q.es ∧ Vs w' x2 s.es ∧ Bel w w')
theorem split_both {p : M.Pg} (hs : Sm p) (hr : M.right p = true) (r : Int) : ∃ q s en, Sm q ∧ Sm s ∧ (en = 0 → Cut p q s) ∧ Both2 p r q s en := by
  by_cases h1 : 1 ≤ r ∧ r ≤ 65535
  · by_cases h2 : 2 ≤ p.es.length
    · obtain ⟨m, hm, hm2, hm3⟩ := least (fun j => M.szs (p.es.drop j) ≤ M.szs (p.es.take j)) p.es.length (by show M.szs (p.es.drop p.es.length) ≤ _; rw [List.drop_length]; simp [M.szs])
      have hm3' : ∀ j, j < m → M.szs (p.es.take j) < M.szs (p.es.drop j) := fun j hj => by have := hm3 j hj; omega
      have hm1 : 1 ≤ m := by
        rcases Nat.eq_zero_or_pos m with h | h
        · subst h
          obtain ⟨e, L, he⟩ : ∃ e L, p.es = e :: L := by
            cases hp : p.es with
            | nil => rw [hp] at h2; simp at h2
            | cons e L => exact ⟨e, L, rfl⟩
          rw [he] at hm2
          simp [M.szs, M.szE] at hm2
        · exact h
      obtain ⟨i, hi⟩ : ∃ i, i = min m (p.es.length - 1) := ⟨_, rfl⟩
      have hcut := cut_of hr i (by omega) (by omega) r
      have hsm1 : Sm { p with es := p.es.take i, high := (p.es[i]?.getD ([], [], false)).1, right := r } := by
        refine ⟨?_, by show (p.es.take i).length ≤ 1000; rw [List.length_take]; have := hs.es; omega, fun e he => hs.each e (List.mem_of_mem_take he)⟩
        show (p.es[i]?.getD ([], [], false)).1.length ≤ 1000
        rw [List.getElem?_eq_getElem (by omega)]
        exact (hs.each _ (List.getElem_mem (by omega))).1
      have hsm2 : Sm { p with es := p.es.drop i } := ⟨hs.high, by show (p.es.drop i).length ≤ 1000; rw [List.length_drop]; have := hs.es; omega, fun e he => hs.each e (List.mem_of_mem_drop he)⟩
      refine ⟨_, _, 0, hsm1, hsm2, fun _ => hcut, fun x w hx => ?_, fun y w hy => ?_⟩
      · rcases hx with ⟨rfl, h0⟩ | ⟨b, off, cap, rfl, hc, hb, hrow⟩
        · rw [h0] at h2; simp at h2
        · refine (split_yes p b off cap r w hs hc hb hrow h2 h1.1 h1.2).mono ?_
          rintro e w' ⟨i', hi', ⟨m', ha, hb', hc', hd⟩, x1, x2, he, o1, o2, k⟩
          have hmm : m' = m := by
            rcases Nat.lt_trichotomy m' m with h | h | h
            · have := hm3' m' h; omega
            · exact h
            · have := hb' m h; omega
          obtain rfl : i' = i := by rw [hd, hi, hmm]
          have e1 : (p.es.take i').length = i' := by rw [List.length_take]; omega
          have e2 : (p.es.drop i').length = p.es.length - i' := List.length_drop
          exact ⟨x1, x2, he, own_vs (by rw [e1]; exact o1), own_vs (by rw [e2]; exact o2), k⟩
      · rcases hy with ⟨rfl, h0⟩ | ⟨b, off, cap, rfl, hc, hb, hrow⟩
        · rw [h0] at h2; simp at h2
        · refine (rsplit_yes p b off cap r w hs hc hb hrow h2 h1.1 h1.2).mono ?_
          rintro e w' ⟨i', hi', ⟨ha, hb', hc', hd⟩, x1, x2, he, o1, o2, k⟩
          obtain rfl : i' = i := by rw [hi]; exact cut_same p.es h2 m hm hm3' hm2 i' ha hb' hc' hd
          exact ⟨x1, x2, he, o1, o2, k⟩
    · refine ⟨M.noPg, M.noPg, 17, sm_no, sm_no, fun h => (by cases h), fun x w hx => ?_, fun y w hy => ?_⟩
      · rcases hx with ⟨rfl, h0⟩ | ⟨b, off, cap, rfl, hc, hb, hrow⟩
        · exact (split_err2 p none 0 0 r w h1.1 h1.2 (by omega)).mono fun e w' ⟨h3, h4⟩ => ⟨.slice none 0 0, .slice none 0 0, h3, .inl ⟨rfl, rfl⟩, .inl ⟨rfl, rfl⟩, h4⟩
        · exact (split_err2 p _ _ _ r w h1.1 h1.2 (by omega)).mono fun e w' ⟨h3, h4⟩ => ⟨.slice none 0 0, .slice none 0 0, h3, .inl ⟨rfl, rfl⟩, .inl ⟨rfl, rfl⟩, h4⟩
      · rcases hy with ⟨rfl, h0⟩ | ⟨b, off, cap, rfl, hc, hb, hrow⟩
        · exact (rsplit_err2 p none 0 0 r w h1.1 h1.2 (by omega)).mono fun e w' ⟨h3, h4⟩ => ⟨.slice none 0 0, .slice none 0 0, h3, .inl ⟨rfl, rfl⟩, .inl ⟨rfl, rfl⟩, h4⟩
        · exact (rsplit_err2 p _ _ _ r w h1.1 h1.2 (by omega)).mono fun e w' ⟨h3, h4⟩ => ⟨.slice none 0 0, .slice none 0 0, h3, .inl ⟨rfl, rfl⟩, .inl ⟨rfl, rfl⟩, h4⟩
  · have h1' : r < 1 ∨ 65535 < r := by omega
    refine ⟨M.noPg, M.noPg, 1, sm_no, sm_no, fun h => (by cases h), fun x w hx => ?_, fun y w hy => ?_⟩
    · obtain ⟨a, n, c, rfl⟩ := slice_of hx
      exact (split_err1 p a n c r w h1').mono fun e w' ⟨h3, h4⟩ => ⟨.slice none 0 0, .slice none 0 0, h3, .inl ⟨rfl, rfl⟩, .inl ⟨rfl, rfl⟩, h4⟩
    · obtain ⟨a, n, c, rfl⟩ := slice_of hy
      exact (rsplit_err1 p a n c r w h1').mono fun e w' ⟨h3, h4⟩ => ⟨.slice none 0 0, .slice none 0 0, h3, .inl ⟨rfl, rfl⟩, .inl ⟨rfl, rfl⟩, h4⟩
end Go.Proofs.Ytcmplklefeicbaa
