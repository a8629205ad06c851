/-
  Plain mathematics of layer 4: the document's own map (keys and values, in any order) beside the program's (by rising keys). Nothing of the program is named here.
-/
import Derived.Test.YtoelaemneoabfabM
namespace Go.Proofs.Ytoelaemneoabfab.M
open Go.RowKit
abbrev Tk := List UInt8
abbrev Rm := List (Tk × Int)
def rget : Rm → Tk → Int × Bool
  | [], _ => (0, false)
  | e :: R, k => if e.1 = k then (e.2, true) else rget R k
def rdel (R : Rm) (k : Tk) : Rm := R.filter fun e => decide (e.1 ≠ k)
def rset (R : Rm) (k : Tk) (v : Int) : Rm := rdel R k ++ [(k, v)]
def tag (l : List Tk) : Ents Tk := l.map fun x => (x, 0)
theorem tag_fst (l : List Tk) : (tag l).map (·.1) = l := by simp [tag, Function.comp_def]
/-- How many at the front are below. -/
def cnt : List Tk → Tk → Nat
  | [], _ => 0
  | y :: ys, x => if ltS y x = true then cnt ys x + 1 else 0
def ins1 (out : List Tk) (x : Tk) : List Tk := out.take (cnt out x) ++ [x] ++ out.drop (cnt out x)
def rfrom (K : List Tk) (k : Tk) : List Tk := K.foldl (fun out x => if ltS x k = true then out else ins1 out x) []
structure Rel (E : Ents Tk) (R : Rm) : Prop where
  up : Up cfS E
  nd : (R.map (·.1)).Nodup
  mem : ∀ e, e ∈ E ↔ e ∈ R
theorem Rel.nil : Rel [] [] := ⟨List.Pairwise.nil, List.nodup_nil, fun _ => Iff.rfl⟩
theorem cnt_le : ∀ (l : List Tk) (x : Tk), cnt l x ≤ l.length
  | [], _ => Nat.le_refl _
  | y :: ys, x => by
    rw [cnt]; split
    · have := cnt_le ys x; simp; omega
    · exact Nat.zero_le _
theorem cnt_pos : ∀ (l : List Tk) (x : Tk), cnt l x = pos cfS (tag l) x
  | [], _ => rfl
  | y :: ys, x => by
    have ih := cnt_pos ys x
    show (if ltS y x = true then cnt ys x + 1 else 0) = _
    unfold tag
    rw [List.map_cons, pos]
    simp only [cfS_lt]
    split
    · rw [ih]; rfl
    · rfl
theorem rget_none : ∀ (R : Rm) (k : Tk), (∀ v, (k, v) ∉ R) → rget R k = (0, false)
  | [], _, _ => rfl
  | (a, b) :: R, k, h => by
    rw [rget, if_neg (fun e => h b (by simp only at e; subst e; exact List.mem_cons_self)), rget_none R k (fun v hv => h v (List.mem_cons_of_mem _ hv))]
theorem rget_some : ∀ (R : Rm) (k : Tk) (v : Int), (R.map (·.1)).Nodup → (k, v) ∈ R → rget R k = (v, true)
  | (a, b) :: R, k, v, hn, h => by
    rw [List.map_cons, List.nodup_cons] at hn
    rcases List.mem_cons.1 h with h | h
    · cases h; rw [rget, if_pos rfl]
    · have : a ≠ k := fun e => hn.1 (by simp only; rw [e]; exact List.mem_map.2 ⟨_, h, rfl⟩)
      rw [rget, if_neg this, rget_some R k v hn.2 h]
theorem Rel.get {E : Ents Tk} {R : Rm} (h : Rel E R) (k : Tk) : rget R k = (M.get cfS E k, has cfS E k) := by
  by_cases hh : has cfS E k = true
  · obtain ⟨v, hv⟩ := (has_iff ordS E h.up k).1 hh
    rw [get_of_mem ordS E h.up k v hv, hh, rget_some R k v h.nd ((h.mem _).1 hv)]
  · have hf : has cfS E k = false := by simpa using hh
    rw [get_none E k hf, hf, rget_none R k]
    intro v hv
    exact hh ((has_iff ordS E h.up k).2 ⟨v, (h.mem _).2 hv⟩)
theorem rdel_mem (R : Rm) (k : Tk) (e : Tk × Int) : e ∈ rdel R k ↔ e ∈ R ∧ e.1 ≠ k := by simp [rdel]
theorem rdel_nd (R : Rm) (k : Tk) (h : (R.map (·.1)).Nodup) : ((rdel R k).map (·.1)).Nodup :=
  List.Nodup.sublist (List.Sublist.map _ List.filter_sublist) h
theorem Rel.del {E : Ents Tk} {R : Rm} (h : Rel E R) (k : Tk) : Rel (M.del cfS E k) (rdel R k) :=
  ⟨up_del E h.up k, rdel_nd R k h.nd, fun e => by rw [mem_del ordS E h.up, rdel_mem, h.mem]⟩
theorem Rel.set {E : Ents Tk} {R : Rm} (h : Rel E R) (k : Tk) (v : Int) : Rel (M.set cfS E k v) (rset R k v) := by
  refine ⟨up_set ordS E h.up k v, ?_, fun e => ?_⟩
  · unfold rset
    rw [List.map_append, List.map_cons, List.map_nil, List.nodup_append]
    refine ⟨rdel_nd R k h.nd, by simp, ?_⟩
    intro a ha b hb
    simp only [List.mem_cons, List.not_mem_nil, or_false] at hb
    subst hb
    obtain ⟨e, he, rfl⟩ := List.mem_map.1 ha
    exact ((rdel_mem R b e).1 he).2
  · unfold rset
    rw [mem_set ordS E h.up, List.mem_append, rdel_mem, h.mem]
    simp only [List.mem_cons, List.not_mem_nil, or_false]
    exact Or.comm
theorem up_nodup : ∀ (E : Ents Tk), Up cfS E → E.Nodup := by
  intro E h
  refine List.Pairwise.imp ?_ h
  intro a b hab e
  subst e
  exact absurd ((cfS_lt _ _).1 hab) (by rw [ltS_irrefl]; decide)
theorem nodup_of_map : ∀ (R : Rm), (R.map (·.1)).Nodup → R.Nodup := by
  intro R h
  rw [List.nodup_iff_pairwise_ne, List.pairwise_map] at h
  exact List.Pairwise.imp (fun hab e => hab (by rw [e])) h
theorem Rel.length {E : Ents Tk} {R : Rm} (h : Rel E R) : E.length = R.length :=
  ((List.perm_ext_iff_of_nodup (up_nodup E h.up) (nodup_of_map R h.nd)).2 h.mem).length_eq
theorem tag_mem (l : List Tk) (e : Tk × Int) : e ∈ tag l ↔ e.1 ∈ l ∧ e.2 = 0 := by
  unfold tag
  rw [List.mem_map]
  constructor
  · rintro ⟨x, hx, rfl⟩; exact ⟨hx, rfl⟩
  · rintro ⟨h1, h2⟩; exact ⟨e.1, h1, by rw [← h2]⟩
theorem ins1_tag (out : List Tk) (x : Tk) (hx : x ∉ out) (hu : Up cfS (tag out)) : tag (ins1 out x) = M.set cfS (tag out) x 0 := by
  have hh : has cfS (tag out) x = false := by
    by_cases h : has cfS (tag out) x = true
    · obtain ⟨v, hv⟩ := (has_iff ordS _ hu x).1 h
      exact absurd ((tag_mem out _).1 hv).1 hx
    · simpa using h
  rw [set_new _ _ _ hh, ← cnt_pos]
  unfold ins1 tag
  simp [List.map_take, List.map_drop]
theorem foldl_tag (k : Tk) : ∀ (K : List Tk) (out : List Tk), K.Nodup → (∀ x ∈ K, x ∉ out) → Up cfS (tag out) →
    Up cfS (tag (K.foldl (fun out x => if ltS x k = true then out else ins1 out x) out)) ∧ ∀ y, y ∈ K.foldl (fun out x => if ltS x k = true then out else ins1 out x) out ↔ (y ∈ out ∨ (y ∈ K ∧ ltS y k = false))
  | [], out, _, _, hu => ⟨hu, fun y => by simp⟩
  | x :: K, out, hn, hd, hu => by
    rw [List.nodup_cons] at hn
    rw [List.foldl_cons]
    by_cases hx : ltS x k = true
    · rw [if_pos hx]
      obtain ⟨h1, h2⟩ := foldl_tag k K out hn.2 (fun y hy => hd y (List.mem_cons_of_mem _ hy)) hu
      refine ⟨h1, fun y => ?_⟩
      rw [h2]
      constructor
      · rintro (h | ⟨h, h'⟩)
        · exact .inl h
        · exact .inr ⟨List.mem_cons_of_mem _ h, h'⟩
      · rintro (h | ⟨h, h'⟩)
        · exact .inl h
        · rcases List.mem_cons.1 h with h | h
          · subst h; rw [hx] at h'; cases h'
          · exact .inr ⟨h, h'⟩
    · rw [if_neg hx]
      have hxo := hd x List.mem_cons_self
      have hu' : Up cfS (tag (ins1 out x)) := by rw [ins1_tag out x hxo hu]; exact up_set ordS _ hu _ _
      have hm : ∀ y, y ∈ ins1 out x ↔ (y = x ∨ y ∈ out) := by
        intro y
        have := mem_set ordS (tag out) hu x 0 (y, 0)
        rw [← ins1_tag out x hxo hu, tag_mem, tag_mem] at this
        simp only [and_true, Prod.mk.injEq] at this
        rw [this]
        constructor
        · rintro (h | h)
          · exact .inl h
          · exact .inr h.1
        · rintro (h | h)
          · exact .inl h
          · exact .inr ⟨h, fun e => hxo (e ▸ h)⟩
      obtain ⟨h1, h2⟩ := foldl_tag k K (ins1 out x) hn.2 (fun y hy => by
        rw [hm]
        rintro (e | e)
        · subst e; exact hn.1 hy
        · exact hd y (List.mem_cons_of_mem _ hy) e) hu'
      refine ⟨h1, fun y => ?_⟩
      rw [h2, hm]
      constructor
      · rintro ((h | h) | ⟨h, h'⟩)
        · subst h; exact .inr ⟨List.mem_cons_self, by simpa using hx⟩
        · exact .inl h
        · exact .inr ⟨List.mem_cons_of_mem _ h, h'⟩
      · rintro (h | ⟨h, h'⟩)
        · exact .inl (.inr h)
        · rcases List.mem_cons.1 h with h | h
          · exact .inl (.inl h)
          · exact .inr ⟨h, h'⟩
theorem drop_pos_mem : ∀ (E : Ents Tk) (_ : Up cfS E) (k : Tk) (e : Tk × Int), e ∈ E.drop (pos cfS E k) ↔ e ∈ E ∧ ltS e.1 k = false
  | [], _, k, e => by simp
  | a :: E, hu, k, e => by
    have hu' := List.pairwise_cons.1 hu
    rw [pos]
    by_cases h : cfS a.1 k < 0
    · rw [if_pos h, List.drop_succ_cons, drop_pos_mem E hu'.2 k e]
      constructor
      · rintro ⟨h1, h2⟩; exact ⟨List.mem_cons_of_mem _ h1, h2⟩
      · rintro ⟨h1, h2⟩
        rcases List.mem_cons.1 h1 with rfl | h1
        · rw [(cfS_lt _ _).1 h] at h2; cases h2
        · exact ⟨h1, h2⟩
    · rw [if_neg h, List.drop_zero]
      have ha : ltS a.1 k = false := by
        by_cases h' : ltS a.1 k = true
        · exact absurd ((cfS_lt _ _).2 h') h
        · simpa using h'
      constructor
      · intro he
        refine ⟨he, ?_⟩
        rcases List.mem_cons.1 he with rfl | he
        · exact ha
        · have h1 := (cfS_lt _ _).1 (hu'.1 e he)
          by_cases h' : ltS e.1 k = true
          · have := ltS_trans _ _ _ h1 h'
            rw [ha] at this; cases this
          · simpa using h'
      · exact fun he => he.1
theorem Rel.from_ {E : Ents Tk} {R : Rm} (h : Rel E R) (k : Tk) : rfrom (R.map (·.1)) k = (E.drop (pos cfS E k)).map (·.1) := by
  obtain ⟨h1, h2⟩ := foldl_tag k (R.map (·.1)) [] h.nd (fun _ _ => by simp) List.Pairwise.nil
  have e : tag (rfrom (R.map (·.1)) k) = tag ((E.drop (pos cfS E k)).map (·.1)) := by
    refine up_ext ordS _ _ h1 ?_ ?_
    · have hd : Up cfS (E.drop (pos cfS E k)) := List.Pairwise.sublist (List.drop_sublist _ _) h.up
      unfold tag Up
      rw [List.map_map, List.pairwise_map]
      exact hd
    · intro e
      rw [tag_mem, tag_mem]
      refine and_congr_left' ?_ |>.trans Iff.rfl
      show e.1 ∈ rfrom (R.map (·.1)) k ↔ _
      unfold rfrom
      rw [h2]
      simp only [List.not_mem_nil, false_or, List.mem_map]
      constructor
      · rintro ⟨⟨x, hx, hx'⟩, hl⟩
        exact ⟨x, (drop_pos_mem E h.up k x).2 ⟨(h.mem x).2 hx, by rw [hx']; exact hl⟩, hx'⟩
      · rintro ⟨x, hx, hx'⟩
        obtain ⟨a, b⟩ := (drop_pos_mem E h.up k x).1 hx
        exact ⟨⟨x, (h.mem x).1 a, hx'⟩, by rw [← hx']; exact b⟩
  have := congrArg (List.map (·.1)) e
  rw [tag_fst, tag_fst] at this
  exact this
theorem pos_empty (E : Ents Tk) : pos cfS E [] = 0 := by
  cases E with
  | nil => rfl
  | cons a E =>
    rw [pos, if_neg]
    intro h
    have := (cfS_lt _ _).1 h
    cases h' : a.1 with
    | nil => rw [h'] at this; cases this
    | cons x xs => rw [h'] at this; cases this
/-- Taken out and put in again. -/
theorem set_del {E : Ents Tk} (hu : Up cfS E) (k : Tk) (hh : has cfS E k = true) : M.set cfS (M.del cfS E k) k (M.get cfS E k) = E := by
  refine up_ext ordS _ _ (up_set ordS _ (up_del E hu k) _ _) hu ?_
  intro e
  obtain ⟨v, hv⟩ := (has_iff ordS E hu k).1 hh
  rw [mem_set ordS _ (up_del E hu k), mem_del ordS E hu, get_of_mem ordS E hu k v hv]
  constructor
  · rintro (rfl | ⟨⟨h, _⟩, _⟩)
    · exact hv
    · exact h
  · intro h
    by_cases hk : e.1 = k
    · refine .inl ?_
      obtain ⟨a, b⟩ := e
      simp only at hk; subst hk
      have h1 := get_of_mem ordS E hu _ _ h
      have h2 := get_of_mem ordS E hu _ _ hv
      rw [← h1, ← h2]
    · exact .inr ⟨⟨h, hk⟩, hk⟩
end Go.Proofs.Ytoelaemneoabfab.M
