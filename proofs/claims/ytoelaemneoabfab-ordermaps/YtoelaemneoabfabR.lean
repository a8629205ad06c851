/-
  The contracts of the list of what was used last (order.Recent at int), walked.
-/
import Derived.Test.YtoelaemneoabfabD
namespace Go.Proofs.Ytoelaemneoabfab
open Go.RowKit

def csN (L : List Int) : List Value := L.map (Value.int .i64)
theorem csN_length (L : List Int) : (csN L).length = L.length * 1 := by simp [csN]
theorem csN_one (L : List Int) : ∀ u ∈ csN L, u.oneCell' = true := by
  intro u hu
  simp only [csN, List.mem_map] at hu
  obtain ⟨e, _, rfl⟩ := hu
  rfl
/-- The cells from ⟨b, off⟩ on hold L. -/
def RowN (w : World) (b off : Nat) (L : List Int) : Prop := ∀ j (h : j < L.length), w.cell? ⟨b, off + j, none⟩ = some (.int .i64 L[j])
theorem RowN.lt {w : World} {b off : Nat} {L : List Int} (h : RowN w b off L) (hL : 0 < L.length) : b < w.heap.size := block_lt_of_cell (h 0 hL)
theorem RowN.bel {w w' : World} {b off : Nat} {L : List Int} (h : RowN w b off L) (hb : Bel w w') : RowN w' b off L := fun j hj =>
  (hb.cell (p := ⟨b, off + j, none⟩) (h.lt (by omega))).trans (h j hj)
theorem rowN_of {X : Nat → Prop} {w : World} {v : Value} {L : List Int} (h : Own 3 1 X w v L.length (csN L)) : v = .slice none 0 0 ∧ L = [] ∨ ∃ g cap, v = .slice (some ⟨g, 0, none⟩) L.length cap ∧ RowN w g 0 L := by
  have h' := h.1
  obtain ⟨⟨hlen, ⟨h1, h2⟩ | ⟨g, cap, cur, hv, hg, hh, hn, hm, hs, ht⟩⟩, _⟩ := h
  · exact .inl ⟨h1, List.length_eq_zero_iff.1 h2⟩
  · refine .inr ⟨g, cap, hv, fun j hj => ?_⟩
    have hc := World.ownsRow.cells h' (g := g) (by rw [hv]; rfl) j (.int .i64 L[j]) (by simp [csN, hj])
    rwa [add_lit] at hc
/-- A list at b holds L. -/
abbrev Rec (X : Nat → Prop) (w : World) (b : Nat) (L : List Int) : Prop := Held 3 1 49 X w b L.length (csN L)

/-- The place of x, or the length. -/
def ix : List Int → Int → Nat
  | [], _ => 0
  | a :: r, x => if a = x then 0 else ix r x + 1
theorem ix_lt : ∀ (L : List Int) (x : Int), ix L x < L.length ↔ x ∈ L
  | [], x => by simp [ix]
  | a :: r, x => by
    have := ix_lt r x
    by_cases h : a = x
    · simp [ix, h]
    · have h' : ¬ x = a := fun e => h e.symm
      simp [ix, h, h', this]
/-- The place of x, or -1. -/
def place (L : List Int) (x : Int) : Int := if ix L x < L.length then (ix L x : Int) else -1
theorem ix_of (L : List Int) (x : Int) (k : Nat) (hk : k < L.length) (h1 : ∀ j (h : j < L.length), j < k → L[j] ≠ x) (h2 : L[k] = x) : ix L x = k := by
  induction L generalizing k with
  | nil => simp at hk
  | cons a r ih =>
    cases k with
    | zero => simp only [List.getElem_cons_zero] at h2; simp [ix, h2]
    | succ k =>
      have ha : a ≠ x := by have := h1 0 (by simp) (by omega); simpa only [List.getElem_cons_zero] using this
      simp only [ix, if_neg ha]
      rw [ih k (by simpa using hk) (fun j hj hjk => by have := h1 (j + 1) (by simpa using hj) (by omega); simpa only [List.getElem_cons_succ] using this) (by simpa only [List.getElem_cons_succ] using h2)]
theorem ix_none (L : List Int) (x : Int) (h1 : ∀ j (h : j < L.length), L[j] ≠ x) : ¬ ix L x < L.length := by
  intro h
  obtain ⟨j, hj, e⟩ := List.mem_iff_getElem.1 ((ix_lt L x).1 h)
  exact h1 j hj e
set_option maxHeartbeats 1000000 in
theorem index_some (L : List Int) (x : Int) (g off cap : Nat) (w : World) (hL : L.length ≤ 1000) (hr : RowN w g off L) :
    Calls Try.prog 39 #[.slice (some ⟨g, off, none⟩) L.length cap, .int .i64 x] w fun e w' => e = .returned (.int .i64 (place L x)) ∧ Bel w w' := by
  go_enter Try.func39, Try.ntmps39
  go_wp2_with fail
  go_loopw [8] (fun i wr => ∃ k : Nat, k ≤ L.length ∧ i = .int .i64 k ∧ Hid (∀ j (h : j < L.length), j < k → L[j] ≠ x) ∧ Bel w wr) (fun i _ => L.length - (intOf i).toNat)
  case atStart => exact ⟨0, Nat.zero_le _, rfl, fun _ _ h => by omega, Below.refl _ _⟩
  case round =>
    obtain ⟨k, hk, rfl, H1, hb⟩ := hrel
    by_cases hlt : k < L.length
    · have c := (hr.bel hb) k hlt
      by_cases he : L[k] = x
      · have HP : Hid (place L x = (k : Int)) := by
          show _ = _
          have := ix_of L x k hlt H1.out he
          unfold place; rw [this, if_pos hlt]
        rw [he] at c
        clear H1 he hr
        go_wp2_with fail
        go_ret
        exact ⟨by rw [HP.out]; rfl, hb⟩
      · have H2 : Hid (∀ j (h : j < L.length), j < k + 1 → L[j] ≠ x) := fun j h hj => by
          by_cases e : j = k
          · subst e; exact he
          · exact H1.out j h (by omega)
        have he' : (x == L[k]) = false := by simp; exact fun h => he h.symm
        clear H1 hr
        generalize L[k] = E at *
        go_wp2_with fail
        go_roundw
        case rel => exact ⟨k + 1, by omega, by go_num, H2.out, hb⟩
        case measure => simp [intOf]; omega
    · have HP : Hid (place L x = -1) := by
        show _ = _
        have := ix_none L x (fun j h => H1.out j h (by omega))
        unfold place; rw [if_neg this]
      clear H1 hr
      go_wp2_with fail
      go_ret
      exact ⟨by rw [HP.out]; rfl, hb⟩
set_option maxHeartbeats 1000000 in
theorem index_none (x : Int) (w : World) :
    Calls Try.prog 39 #[.slice none 0 0, .int .i64 x] w fun e w' => e = .returned (.int .i64 (-1)) ∧ Bel w w' := by
  go_enter Try.func39, Try.ntmps39
  go_wp2_with fail
  refine wp_loop_rounds 1 ?_
  rw [rounds_succ]
  go_wp2_with fail
  go_ret
  exact ⟨rfl, Below.refl _ _⟩
theorem index_any (X : Nat → Prop) (L : List Int) (x : Int) (v : Value) (w : World) (hL : L.length ≤ 1000) (ho : Own 3 1 X w v L.length (csN L)) :
    Calls Try.prog 39 #[v, .int .i64 x] w fun e w' => e = .returned (.int .i64 (place L x)) ∧ Bel w w' := by
  rcases rowN_of ho with ⟨rfl, rfl⟩ | ⟨g, cap, rfl, hr⟩
  · exact index_none x w
  · exact index_some L x g 0 cap w hL hr

/-- The list without a thing. -/
theorem erase_at : ∀ (L : List Int) (x : Int), ix L x < L.length → L.erase x = L.take (ix L x) ++ L.drop (ix L x + 1)
  | [], x, h => by simp at h
  | a :: r, x, h => by
    by_cases ha : a = x
    · subst ha; simp [ix]
    · have h' : ix r x < r.length := by simpa [ix, ha] using h
      rw [List.erase_cons_tail (by simpa using ha), erase_at r x h']
      simp [ix, ha]
set_option maxHeartbeats 2000000 in
theorem dropN (X : Nat → Prop) (L : List Int) (x : Int) (b : Nat) (w : World) (hL : L.length ≤ 1000) (hm : Rec X w b L) :
    Calls Try.prog 19 #[.pointer (some ⟨b, 0, none⟩), .int .i64 x] w fun e w' => e = .returned (.bool (decide (x ∈ L))) ∧ Rec X w' b (L.erase x) ∧ Keep X w w' := by
  obtain ⟨v, hb, hbx, ho, hob, hX⟩ := hm
  have hI := index_any X L x v w hL ho
  have c := hb.cell
  have hbl := hb.lt
  by_cases hh : ix L x < L.length
  · have hmem := (ix_lt _ _).1 hh
    have hp : place L x = (ix L x : Int) := by unfold place; rw [if_pos hh]
    rw [hp] at hI
    have HD : Hid (decide (x ∈ L) = true) := decide_eq_true hmem
    have HE := hid (erase_at L x hh)
    rcases rowN_of ho with ⟨rfl, rfl⟩ | ⟨g, cap, rfl, hr⟩
    · simp at hh
    · obtain ⟨m, hml⟩ : ∃ m, L.length = m + 1 := ⟨L.length - 1, by omega⟩
      have hEl : Hid ((L.erase x).length = m) := by show _ = _; rw [List.length_erase_of_mem hmem]; omega
      have HS := fun w1 (b1 : Bel w w1) => sdel1 (fun k => X k ∨ k = b) m (ix L x) g cap (csN L) w1 (by rw [← hml]; exact (ho.bel b1).both hob) (by omega) (by omega) (csN_one L)
      have hcs : csN (L.erase x) = (csN L).take (ix L x * 1) ++ (csN L).drop ((ix L x + 1) * 1) := by rw [HE.out]; simp [csN, List.map_take, List.map_drop]
      rw [← hcs] at HS
      have HX := hid hbx
      have HXl := hid hX
      rw [hml] at hI c
      clear hcs HE ho hr hbx hX hmem hp
      generalize ix L x = q at *
      have hq : q ≤ 1000 := by omega
      go_enter Try.func19, Try.ntmps19
      go_wp2_with fail
      refine hI.mono ?_
      clear hI
      rintro e w1 ⟨rfl, b1⟩
      have c' := (bel_cell b1 hbl 0).trans c
      have HB := hid (hb.bel b1)
      have hs1 := HS w1 b1
      clear HS hb
      go_wp2_with fail
      refine hs1.mono ?_
      clear hs1
      rintro e w2 ⟨rfl, ho', k'⟩
      have d := (HB.out.keep k' (.inr rfl)).cell
      have df := (HB.out.keep k' (.inr rfl)).frozen
      have HT := hid (Held.turn HB.out HX.out (fun j hj => Nat.lt_of_lt_of_le (HXl.out j hj) b1.size) k' ho' rfl)
      clear ho' k'
      go_wp2_with fail
      go_ret
      exact ⟨by rw [HD.out]; rfl, by show Held _ _ _ _ _ _ _ _; rw [hEl.out]; exact HT.out.1, (Keep.of_bel b1 HXl.out).tr HT.out.2⟩
  · have hmem : x ∉ L := fun h => hh ((ix_lt _ _).2 h)
    have hp : place L x = -1 := by unfold place; rw [if_neg hh]
    rw [hp] at hI
    have HD : Hid (decide (x ∈ L) = false) := decide_eq_false hmem
    have HE : Hid (L.erase x = L) := List.erase_of_not_mem hmem
    have HM : Hid (∀ w1, Bel w w1 → Rec X w1 b (L.erase x) ∧ Keep X w w1) := fun w1 b1 => by
      rw [HE.out]
      exact ⟨Held.bel ⟨v, hb, hbx, ho, hob, hX⟩ b1, Keep.of_bel b1 hX⟩
    clear hb ho hbx hX hmem hp hh
    go_enter Try.func19, Try.ntmps19
    go_wp2_with fail
    refine hI.mono ?_
    clear hI
    rintro e w1 ⟨rfl, b1⟩
    go_wp2_with fail
    go_ret
    exact ⟨by rw [HD.out]; rfl, HM.out w1 b1⟩
end Go.Proofs.Ytoelaemneoabfab
