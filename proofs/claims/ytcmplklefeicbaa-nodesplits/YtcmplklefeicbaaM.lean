/-
  Plain mathematics of layer 13 (node): lists of keys and values, rising by their keys. Nothing of the program is named here.
-/
import Derived.WalkKit
import Derived.Laws.BytesArg
import Derived.Lib.Strings
namespace Go.Proofs.Ytcmplklefeicbaa.M
open Go.RowKit

/-- Bytes as a string. -/
def bs (l : List UInt8) : ByteArray := ⟨l.toArray⟩
theorem bs_data (l : List UInt8) : (bs l).data.toList = l := rfl
theorem bs_toList (l : List UInt8) : (bs l).toList = l := by rw [ByteArray.toList_eq]; rfl
theorem bs_size (l : List UInt8) : (bs l).size = l.length := by simp [bs, ByteArray.size]
theorem bs_of (s : ByteArray) : bs s.data.toList = s := Lib.mk_data s
theorem bs_inj {a b : List UInt8} (h : bs a = bs b) : a = b := by rw [← bs_data a, h, bs_data]
theorem extract_bs (s : ByteArray) (a b : Nat) : s.extract a b = bs ((s.data.toList.drop a).take (b - a)) := Lib.extract_eq s a b

/-- What an order's comparison keeps to. -/
structure Ord {κ : Type} (cf : κ → κ → Int) : Prop where
  refl : ∀ a, cf a a = 0
  eq : ∀ a b, cf a b = 0 → a = b
  anti : ∀ a b, cf a b < 0 ↔ 0 < cf b a
  trans : ∀ a b c, cf a b < 0 → cf b c < 0 → cf a c < 0

section
variable {κ : Type} (cf : κ → κ → Int)
/-- What an entry has beside its key. -/
abbrev V := List UInt8 × Bool
abbrev Ents (κ : Type) := List (κ × V)
/-- Rising by their keys. -/
def Up (L : Ents κ) : Prop := L.Pairwise fun a b => cf a.1 b.1 < 0
/-- The place of a key, or where it would stand. -/
def pos : Ents κ → κ → Nat
  | [], _ => 0
  | e :: r, k => if cf e.1 k < 0 then pos r k + 1 else 0
/-- Is it there? -/
def has : Ents κ → κ → Bool
  | [], _ => false
  | e :: r, k => if cf e.1 k < 0 then has r k else decide (cf e.1 k = 0)
def get : Ents κ → κ → V
  | [], _ => ([], false)
  | e :: r, k => if cf e.1 k < 0 then get r k else if cf e.1 k = 0 then e.2 else ([], false)
def set : Ents κ → κ → V → Ents κ
  | [], k, v => [(k, v)]
  | e :: r, k, v => if cf e.1 k < 0 then e :: set r k v else if cf e.1 k = 0 then (e.1, v) :: r else (k, v) :: e :: r
def del : Ents κ → κ → Ents κ
  | [], _ => []
  | e :: r, k => if cf e.1 k < 0 then e :: del r k else if cf e.1 k = 0 then r else e :: r
variable {cf}
theorem pos_le (L : Ents κ) (k : κ) : pos cf L k ≤ L.length := by
  induction L with
  | nil => simp [pos]
  | cons e r ih => simp only [pos]; split <;> simp <;> omega
theorem pos_at : ∀ (L : Ents κ) (k : κ) (h : pos cf L k < L.length), ¬ cf L[pos cf L k].1 k < 0
  | [], _, h => by simp [pos] at h
  | e :: r, k, h => by
    by_cases h0 : cf e.1 k < 0
    · have e1 : pos cf (e :: r) k = pos cf r k + 1 := by simp only [pos, if_pos h0]
      simp only [e1, List.getElem_cons_succ]
      exact pos_at r k (by rw [e1] at h; simpa using h)
    · have e1 : pos cf (e :: r) k = 0 := by simp only [pos, if_neg h0]
      simp only [e1, List.getElem_cons_zero]
      exact h0
theorem pos_before : ∀ (L : Ents κ) (k : κ) (j : Nat) (h : j < L.length), j < pos cf L k → cf L[j].1 k < 0
  | [], _, _, h, _ => by simp at h
  | e :: r, k, j, h, hj => by
    by_cases h0 : cf e.1 k < 0
    · have e1 : pos cf (e :: r) k = pos cf r k + 1 := by simp only [pos, if_pos h0]
      rw [e1] at hj
      cases j with
      | zero => simpa using h0
      | succ j =>
        simp only [List.getElem_cons_succ]
        exact pos_before r k j (by simpa using h) (by omega)
    · have e1 : pos cf (e :: r) k = 0 := by simp only [pos, if_neg h0]
      omega
theorem pos_unique : ∀ (L : Ents κ) (k : κ) (i : Nat), i ≤ L.length → (∀ j (h : j < L.length), j < i → cf L[j].1 k < 0) → (∀ h : i < L.length, ¬ cf L[i].1 k < 0) → i = pos cf L k
  | [], _, i, h, _, _ => by simp at h; simp [pos, h]
  | e :: r, k, 0, _, _, h2 => by have := h2 (by simp); simp only [List.getElem_cons_zero] at this; simp [pos, this]
  | e :: r, k, i + 1, h, h1, h2 => by
    have h0 := h1 0 (by simp) (by omega)
    simp only [List.getElem_cons_zero] at h0
    simp only [pos, if_pos h0]
    rw [pos_unique r k i (by simpa using h) (fun j hj hji => by have := h1 (j + 1) (by simpa using hj) (by omega); simpa using this) (fun hi => by have := h2 (by simpa using hi); simpa using this)]
theorem has_eq : ∀ (L : Ents κ) (k : κ), has cf L k = if h : pos cf L k < L.length then decide (cf (L[pos cf L k]'h).1 k = 0) else false
  | [], _ => by simp [has, pos]
  | e :: r, k => by
    simp only [has, pos]
    by_cases h : cf e.1 k < 0
    · simp only [if_pos h]
      rw [has_eq r k]
      simp
    · simp only [if_neg h]
      simp
theorem get_eq : ∀ (L : Ents κ) (k : κ) (h : pos cf L k < L.length), has cf L k = true → get cf L k = (L[pos cf L k]'h).2
  | [], _, h, _ => by simp [pos] at h
  | e :: r, k, h, hh => by
    by_cases h0 : cf e.1 k < 0
    · have h2 : has cf r k = true := by simpa [has, h0] using hh
      have h1 : pos cf r k < r.length := by simpa [pos, h0] using h
      have := get_eq r k h1 h2
      simp only [get, pos, if_pos h0]
      simpa using this
    · have h2 : cf e.1 k = 0 := by simpa [has, h0] using hh
      simp [get, pos, h2]
theorem get_none : ∀ (L : Ents κ) (k : κ), has cf L k = false → get cf L k = ([], false)
  | [], _, _ => rfl
  | e :: r, k, hh => by
    simp only [has, get] at *
    by_cases h0 : cf e.1 k < 0
    · simp only [if_pos h0] at *; exact get_none r k hh
    · simp only [if_neg h0] at *
      rw [if_neg (of_decide_eq_false hh)]
theorem pos_lt_of_has {L : Ents κ} {k : κ} (h : has cf L k = true) : pos cf L k < L.length := by
  rw [has_eq] at h
  split at h
  · assumption
  · cases h
theorem set_new : ∀ (L : Ents κ) (k : κ) (v : V), has cf L k = false → set cf L k v = L.take (pos cf L k) ++ (k, v) :: L.drop (pos cf L k)
  | [], _, _, _ => by simp [set, pos]
  | e :: r, k, v, h => by
    simp only [has, set, pos] at *
    by_cases h0 : cf e.1 k < 0
    · simp only [if_pos h0] at *; simp [set_new r k v h]
    · simp only [if_neg h0] at *
      rw [if_neg (of_decide_eq_false h)]; simp
theorem set_old : ∀ (L : Ents κ) (k : κ) (v : V) (h : has cf L k = true), set cf L k v = L.take (pos cf L k) ++ ((L[pos cf L k]'(pos_lt_of_has h)).1, v) :: L.drop (pos cf L k + 1)
  | [], _, _, h => by simp [has] at h
  | e :: r, k, v, h => by
    by_cases h0 : cf e.1 k < 0
    · have h2 : has cf r k = true := by simpa [has, h0] using h
      have := set_old r k v h2
      simp only [set, pos, if_pos h0]
      simpa using this
    · have h2 : cf e.1 k = 0 := by simpa [has, h0] using h
      simp [set, pos, h2]
theorem del_old : ∀ (L : Ents κ) (k : κ), has cf L k = true → del cf L k = L.take (pos cf L k) ++ L.drop (pos cf L k + 1)
  | [], _, h => by simp [has] at h
  | e :: r, k, h => by
    simp only [has, del, pos] at *
    by_cases h0 : cf e.1 k < 0
    · simp only [if_pos h0] at *; simp [del_old r k h]
    · simp only [if_neg h0] at *
      rw [if_pos (of_decide_eq_true h)]; simp
theorem del_none : ∀ (L : Ents κ) (k : κ), has cf L k = false → del cf L k = L
  | [], _, _ => rfl
  | e :: r, k, h => by
    simp only [has, del] at *
    by_cases h0 : cf e.1 k < 0
    · simp only [if_pos h0] at *; rw [del_none r k h]
    · simp only [if_neg h0] at *
      rw [if_neg (of_decide_eq_false h)]
theorem set_length (L : Ents κ) (k : κ) (v : V) : (set cf L k v).length = L.length + if has cf L k then 0 else 1 := by
  induction L with
  | nil => simp [set, has]
  | cons e r ih =>
    simp only [set, has]
    by_cases h0 : cf e.1 k < 0
    · simp only [if_pos h0, List.length_cons, ih]; omega
    · simp only [if_neg h0]
      by_cases h1 : cf e.1 k = 0 <;> simp [h1]
theorem del_length (L : Ents κ) (k : κ) : (del cf L k).length = L.length - if has cf L k then 1 else 0 := by
  by_cases h : has cf L k = true
  · rw [del_old L k h]
    have := pos_lt_of_has h
    simp [h]; omega
  · rw [del_none L k (by simpa using h)]; simp [h]
/-- Members behind 'set'. -/
theorem mem_set (H : Ord cf) : ∀ (L : Ents κ), Up cf L → ∀ (k : κ) (v : V) (e : κ × V), e ∈ set cf L k v ↔ e = (k, v) ∨ (e ∈ L ∧ e.1 ≠ k)
  | [], _, k, v, e => by simp [set]
  | a :: r, hu, k, v, e => by
    have hu' := List.pairwise_cons.1 hu
    simp only [set]
    by_cases h0 : cf a.1 k < 0
    · have hne : a.1 ≠ k := fun h => by rw [h, H.refl] at h0; omega
      simp only [if_pos h0, List.mem_cons, mem_set H r hu'.2 k v e]
      constructor
      · rintro (rfl | rfl | ⟨h1, h2⟩)
        · exact .inr ⟨.inl rfl, hne⟩
        · exact .inl rfl
        · exact .inr ⟨.inr h1, h2⟩
      · rintro (rfl | ⟨rfl | h1, h2⟩)
        · exact .inr (.inl rfl)
        · exact .inl rfl
        · exact .inr (.inr ⟨h1, h2⟩)
    · simp only [if_neg h0]
      by_cases h1 : cf a.1 k = 0
      · have he := H.eq _ _ h1
        simp only [if_pos h1, List.mem_cons]
        have hr : ∀ b ∈ r, b.1 ≠ k := fun b hb hbk => by have := hu'.1 b hb; rw [hbk, h1] at this; omega
        constructor
        · rintro (rfl | h)
          · exact .inl (by rw [he])
          · exact .inr ⟨.inr h, hr e h⟩
        · rintro (rfl | ⟨rfl | h, h2⟩)
          · exact .inl (by rw [he])
          · exact absurd he h2
          · exact .inr h
      · simp only [if_neg h1, List.mem_cons]
        have hk : cf k a.1 < 0 := by
          rw [H.anti]
          omega
        have hr : ∀ b, b = a ∨ b ∈ r → b.1 ≠ k := fun b hb hbk => by
          rcases hb with rfl | hb
          · exact h1 (by rw [hbk]; exact H.refl k)
          · have := H.trans _ _ _ hk (hu'.1 b hb)
            rw [hbk, H.refl] at this; omega
        constructor
        · rintro (rfl | h)
          · exact .inl rfl
          · exact .inr ⟨h, hr e h⟩
        · rintro (rfl | ⟨h, _⟩)
          · exact .inl rfl
          · exact .inr h
theorem up_set (H : Ord cf) : ∀ (L : Ents κ), Up cf L → ∀ (k : κ) (v : V), Up cf (set cf L k v)
  | [], _, k, v => by simp [set, Up]
  | a :: r, hu, k, v => by
    have hu' := List.pairwise_cons.1 hu
    simp only [set]
    by_cases h0 : cf a.1 k < 0
    · simp only [if_pos h0]
      refine List.pairwise_cons.2 ⟨fun b hb => ?_, up_set H r hu'.2 k v⟩
      rcases (mem_set H r hu'.2 k v b).1 hb with rfl | ⟨h, _⟩
      · exact h0
      · exact hu'.1 b h
    · simp only [if_neg h0]
      by_cases h1 : cf a.1 k = 0
      · simp only [if_pos h1]
        exact List.pairwise_cons.2 ⟨fun b hb => hu'.1 b hb, hu'.2⟩
      · simp only [if_neg h1]
        have hk : cf k a.1 < 0 := by rw [H.anti]; omega
        refine List.pairwise_cons.2 ⟨fun b hb => ?_, hu⟩
        rcases List.mem_cons.1 hb with rfl | hb
        · exact hk
        · exact H.trans _ _ _ hk (hu'.1 b hb)
theorem up_del (L : Ents κ) (hu : Up cf L) (k : κ) : Up cf (del cf L k) := by
  by_cases h : has cf L k = true
  · rw [del_old L k h]
    refine List.Pairwise.sublist ?_ hu
    have : (L.take (pos cf L k) ++ L.drop (pos cf L k + 1)).Sublist (L.take (pos cf L k) ++ L.drop (pos cf L k)) :=
      List.Sublist.append (List.Sublist.refl _) (by rw [← List.drop_drop]; exact List.drop_sublist _ _)
    rwa [List.take_append_drop] at this
  · rw [del_none L k (by simpa using h)]; exact hu
theorem mem_del (H : Ord cf) : ∀ (L : Ents κ), Up cf L → ∀ (k : κ) (e : κ × V), e ∈ del cf L k ↔ e ∈ L ∧ e.1 ≠ k
  | [], _, k, e => by simp [del]
  | a :: r, hu, k, e => by
    have hu' := List.pairwise_cons.1 hu
    simp only [del]
    by_cases h0 : cf a.1 k < 0
    · have hne : a.1 ≠ k := fun h => by rw [h, H.refl] at h0; omega
      simp only [if_pos h0, List.mem_cons, mem_del H r hu'.2 k e]
      constructor
      · rintro (rfl | ⟨h1, h2⟩)
        · exact ⟨.inl rfl, hne⟩
        · exact ⟨.inr h1, h2⟩
      · rintro ⟨rfl | h1, h2⟩
        · exact .inl rfl
        · exact .inr ⟨h1, h2⟩
    · simp only [if_neg h0]
      by_cases h1 : cf a.1 k = 0
      · have he := H.eq _ _ h1
        have hr : ∀ b ∈ r, b.1 ≠ k := fun b hb hbk => by have := hu'.1 b hb; rw [hbk, h1] at this; omega
        simp only [if_pos h1, List.mem_cons]
        constructor
        · exact fun h => ⟨.inr h, hr e h⟩
        · rintro ⟨rfl | h, h2⟩
          · exact absurd he h2
          · exact h
      · simp only [if_neg h1, List.mem_cons]
        have hk : cf k a.1 < 0 := by rw [H.anti]; omega
        have hr : ∀ b, b = a ∨ b ∈ r → b.1 ≠ k := fun b hb hbk => by
          rcases hb with rfl | hb
          · exact h1 (by rw [hbk]; exact H.refl k)
          · have := H.trans _ _ _ hk (hu'.1 b hb)
            rw [hbk, H.refl] at this; omega
        exact ⟨fun h => ⟨h, hr e h⟩, fun h => h.1⟩
theorem has_iff (H : Ord cf) : ∀ (L : Ents κ), Up cf L → ∀ (k : κ), has cf L k = true ↔ ∃ v, (k, v) ∈ L
  | [], _, k => by simp [has]
  | a :: r, hu, k => by
    have hu' := List.pairwise_cons.1 hu
    simp only [has]
    by_cases h0 : cf a.1 k < 0
    · have hne : a.1 ≠ k := fun h => by rw [h, H.refl] at h0; omega
      simp only [if_pos h0, has_iff H r hu'.2 k, List.mem_cons]
      constructor
      · rintro ⟨v, h⟩; exact ⟨v, .inr h⟩
      · rintro ⟨v, h | h⟩
        · exact absurd (by rw [← h]) hne
        · exact ⟨v, h⟩
    · simp only [if_neg h0, decide_eq_true_eq, List.mem_cons]
      constructor
      · intro h; exact ⟨a.2, .inl (by rw [← H.eq _ _ h])⟩
      · rintro ⟨v, h | h⟩
        · rw [← h]; exact H.refl k
        · have := hu'.1 _ h
          exact absurd this h0
theorem get_of_mem (H : Ord cf) : ∀ (L : Ents κ), Up cf L → ∀ (k : κ) (v : V), (k, v) ∈ L → get cf L k = v
  | [], _, k, v, h => by cases h
  | a :: r, hu, k, v, h => by
    have hu' := List.pairwise_cons.1 hu
    simp only [get]
    rcases List.mem_cons.1 h with h | h
    · rw [← h]
      have := H.refl k
      simp [this]
    · rw [if_pos (hu'.1 _ h)]; exact get_of_mem H r hu'.2 k v h
/-- Two rising lists of the same members are the same. -/
theorem up_ext (H : Ord cf) : ∀ (L L' : Ents κ), Up cf L → Up cf L' → (∀ e, e ∈ L ↔ e ∈ L') → L = L'
  | [], [], _, _, _ => rfl
  | [], b :: r', _, _, h => by have := (h b).2 (by simp); cases this
  | a :: r, [], _, _, h => by have := (h a).1 (by simp); cases this
  | a :: r, b :: r', hu, hu', h => by
    have u := List.pairwise_cons.1 hu
    have u' := List.pairwise_cons.1 hu'
    have hab : a = b := by
      rcases List.mem_cons.1 ((h a).1 (by simp)) with h1 | h1
      · exact h1
      · rcases List.mem_cons.1 ((h b).2 (by simp)) with h2 | h2
        · exact h2.symm
        · have x := u.1 b h2
          have y := u'.1 a h1
          have := H.trans _ _ _ x y
          rw [H.refl] at this; omega
    subst hab
    have hn : ∀ e ∈ r, e ≠ a := fun e he hea => by have := u.1 e he; rw [hea, H.refl] at this; omega
    have hn' : ∀ e ∈ r', e ≠ a := fun e he hea => by have := u'.1 e he; rw [hea, H.refl] at this; omega
    rw [up_ext H r r' u.2 u'.2 (fun e => ⟨fun he => by
      rcases List.mem_cons.1 ((h e).1 (by simp [he])) with h1 | h1
      · exact absurd h1 (hn e he)
      · exact h1, fun he => by
      rcases List.mem_cons.1 ((h e).2 (by simp [he])) with h1 | h1
      · exact absurd h1 (hn' e he)
      · exact h1⟩)]
/-- What a binary search keeps: below i all is ahead of k, from j on nothing is. -/
theorem up_lt (H : Ord cf) {L : Ents κ} (hu : Up cf L) {k : κ} {h : Nat} (hh : h < L.length) (hc : cf L[h].1 k < 0) : ∀ j (hj : j < L.length), j < h + 1 → cf L[j].1 k < 0 := fun j hj hjh => by
  by_cases e : j = h
  · subst e; exact hc
  · exact H.trans _ _ _ (List.pairwise_iff_getElem.1 hu j h hj hh (by omega)) hc
theorem up_ge (H : Ord cf) {L : Ents κ} (hu : Up cf L) {k : κ} {h : Nat} (hh : h < L.length) (hc : ¬ cf L[h].1 k < 0) : ∀ j (hj : j < L.length), h ≤ j → ¬ cf L[j].1 k < 0 := fun j hj hjh hlt => by
  by_cases e : j = h
  · subst e; exact hc hlt
  · exact hc (H.trans _ _ _ (List.pairwise_iff_getElem.1 hu h j hh hj (by omega)) hlt)
end

/-- Numbers. -/
def cfI (x y : Int) : Int := if x < y then -1 else if y < x then 1 else 0
theorem ordI : Ord cfI := by
  refine ⟨fun a => ?_, fun a b h => ?_, fun a b => ?_, fun a b c h1 h2 => ?_⟩
  · simp [cfI]
  · unfold cfI at h; split at h <;> (try split at h) <;> omega
  · unfold cfI; split <;> (try split) <;> (try split) <;> (try split) <;> omega
  · unfold cfI at *; split at h1 <;> (try split at h1) <;> split at h2 <;> (try split at h2) <;> (try split) <;> omega

/-- Texts, as bytes. -/
def ltS : List UInt8 → List UInt8 → Bool := Op.bytesLess
def cfS (x y : List UInt8) : Int := if ltS x y then -1 else if x = y then 0 else 1
theorem ltS_irrefl : ∀ a, ltS a a = false
  | [] => rfl
  | a :: r => by
    have := ltS_irrefl r
    unfold ltS at *
    simp [Op.bytesLess, this]
theorem ltS_trans : ∀ a b c, ltS a b = true → ltS b c = true → ltS a c = true
  | [], _, [], _, h2 => by unfold ltS at h2; cases ‹List UInt8› <;> simp [Op.bytesLess] at h2
  | [], _, _ :: _, _, _ => by simp [ltS, Op.bytesLess]
  | _ :: _, [], _, h1, _ => by simp [ltS, Op.bytesLess] at h1
  | _ :: _, _ :: _, [], _, h2 => by simp [ltS, Op.bytesLess] at h2
  | a :: x, b :: y, c :: z, h1, h2 => by
    have ih := ltS_trans x y z
    unfold ltS at *
    simp only [Op.bytesLess, Bool.or_eq_true, Bool.and_eq_true, decide_eq_true_eq, beq_iff_eq, UInt8.lt_iff_toNat_lt] at *
    rcases h1 with h1 | ⟨h1, h1'⟩ <;> rcases h2 with h2 | ⟨h2, h2'⟩
    · left; omega
    · subst h2; left; exact h1
    · subst h1; left; exact h2
    · subst h1; subst h2; right; exact ⟨rfl, ih h1' h2'⟩
theorem ltS_total : ∀ a b, ltS a b = false → a ≠ b → ltS b a = true
  | [], [], _, h => absurd rfl h
  | [], _ :: _, h, _ => by simp [ltS, Op.bytesLess] at h
  | _ :: _, [], _, _ => by simp [ltS, Op.bytesLess]
  | a :: x, b :: y, h, hn => by
    have ih := ltS_total x y
    unfold ltS at *
    simp only [Op.bytesLess, Bool.or_eq_true, Bool.and_eq_true, decide_eq_true_eq, beq_iff_eq, Bool.or_eq_false_iff, Bool.and_eq_false_iff, decide_eq_false_iff_not, UInt8.lt_iff_toNat_lt] at *
    by_cases e : a = b
    · subst e
      right
      refine ⟨rfl, ih ?_ (fun e => hn (by rw [e]))⟩
      rcases h.2 with h | h
      · simp at h
      · exact h
    · left
      have : a.toNat ≠ b.toNat := fun e' => e (UInt8.toNat_inj.1 e')
      omega
theorem cfS_lt (a b : List UInt8) : cfS a b < 0 ↔ ltS a b = true := by
  unfold cfS
  by_cases h : ltS a b = true
  · simp [h]
  · by_cases e : a = b
    · subst e; simp [h]
    · simp [h, e]
theorem cfS_zero (a b : List UInt8) : cfS a b = 0 ↔ a = b := by
  unfold cfS
  constructor
  · intro h
    split at h
    · omega
    · split at h
      · assumption
      · omega
  · rintro rfl
    simp [ltS_irrefl]
theorem ordS : Ord cfS := by
  refine ⟨fun a => ?_, fun a b h => ?_, fun a b => ?_, fun a b c h1 h2 => ?_⟩
  · simp [cfS, ltS_irrefl]
  · unfold cfS at h; split at h
    · omega
    · split at h
      · assumption
      · omega
  · rw [cfS_lt]
    unfold cfS
    constructor
    · intro h
      have hb : ltS b a = false := by
        cases hba : ltS b a
        · rfl
        · have := ltS_trans _ _ _ h hba; rw [ltS_irrefl] at this; cases this
      have hne : b ≠ a := fun e => by rw [e, ltS_irrefl] at h; cases h
      simp [hb, hne]
    · intro h
      split at h
      · omega
      · split at h
        · omega
        · rename_i h1 h2
          exact ltS_total b a (by simpa using h1) h2
  · rw [cfS_lt] at *; exact ltS_trans _ _ _ h1 h2
end Go.Proofs.Ytcmplklefeicbaa.M
