/-
  The contracts of the binary search, and of find, walked.
-/
import Derived.Test.YtoelaemneoabfabW
namespace Go.Proofs.Ytoelaemneoabfab
open Go.RowKit

/-- The cells from ⟨b, off⟩ on hold the entries of L, two cells each. -/
def RowS (w : World) (b off : Nat) (L : M.Ents (List UInt8)) : Prop := ∀ j (h : j < L.length),
  w.cell? ⟨b, off + j * 2, none⟩ = some (Value.string (M.bs (L[j].1))) ∧ w.cell? ⟨b, off + j * 2 + 1, none⟩ = some (.int .i64 L[j].2)
theorem RowS.lt {w : World} {b off : Nat} {L : M.Ents (List UInt8)} (h : RowS w b off L) (hL : 0 < L.length) : b < w.heap.size := block_lt_of_cell (h 0 hL).1
theorem RowS.bel {w w' : World} {b off : Nat} {L : M.Ents (List UInt8)} (h : RowS w b off L) (hb : Bel w w') : RowS w' b off L := fun j hj =>
  have hB := h.lt (by omega)
  ⟨(hb.cell (p := ⟨b, off + j * 2, none⟩) hB).trans (h j hj).1, (hb.cell (p := ⟨b, off + j * 2 + 1, none⟩) hB).trans (h j hj).2⟩
set_option maxHeartbeats 400000 in
theorem fcmpS (a : List UInt8) (v : Int) (k : List UInt8) (w : World) : Calls Try.prog 48 #[.agg #[(Value.string (M.bs a)), .int .i64 v], (Value.string (M.bs k))] w fun e w' => e = .returned (.int .i64 (M.cfS a k)) ∧ Bel w w' := by
  go_enter Try.func48, Try.ntmps48
  go_wp2_with fail
  refine (compareS _ _ _).mono ?_
  rintro e w' ⟨rfl, rfl⟩
  go_wp2_with fail
  go_ret
  exact ⟨rfl, Bel.al (Below.refl _ _) _⟩
set_option maxHeartbeats 1000000 in
theorem bsfS (L : M.Ents (List UInt8)) (hu : M.Up M.cfS L) (k : List UInt8) (b off cap : Nat) (w : World) (hL : L.length ≤ 1000) (hr : RowS w b off L) :
    Calls Try.prog 47 #[.slice (some ⟨b, off, none⟩) L.length cap, (Value.string (M.bs k)), .func (.func 48) #[] #[]] w fun e w' => e = .returned (.tuple #[.int .i64 (M.pos M.cfS L k : Nat), .bool (M.has M.cfS L k)]) ∧ Bel w w' := by
  go_enter Try.func47, Try.ntmps47
  go_wp2_with fail
  go_loopw [9, 10] (fun i j wr => ∃ p q : Nat, p ≤ q ∧ q ≤ L.length ∧ i = .int .i64 p ∧ j = .int .i64 q ∧ Hid (∀ t (ht : t < L.length), t < p → M.cfS L[t].1 k < 0) ∧ Hid (∀ t (ht : t < L.length), q ≤ t → 0 ≤ M.cfS L[t].1 k) ∧ Bel w wr) (fun i j _ => (intOf j - intOf i).toNat)
  case atStart => exact ⟨0, L.length, by omega, by omega, rfl, rfl, fun t _ h => by omega, fun t ht h => by omega, Below.refl _ _⟩
  case round =>
    obtain ⟨p, q, hpq, hq, rfl, rfl, H1, H2, hb⟩ := hrel
    by_cases hlt : p < q
    · have hm : (p + q) / 2 < L.length := by omega
      obtain ⟨c1, c2⟩ := (hr.bel hb) ((p + q) / 2) hm
      have A1 : Hid (M.cfS L[(p + q) / 2].1 k < 0 → ∀ t (ht : t < L.length), t < (p + q) / 2 + 1 → M.cfS L[t].1 k < 0) := fun h => M.up_lt M.ordS hu hm h
      have A2 : Hid (0 ≤ M.cfS L[(p + q) / 2].1 k → ∀ t (ht : t < L.length), (p + q) / 2 ≤ t → 0 ≤ M.cfS L[t].1 k) := fun h t ht htt => by
        have := M.up_ge M.ordS hu (k := k) hm (by omega) t ht htt; omega
      generalize L[(p + q) / 2] = E at *
      by_cases hc : M.cfS E.1 k < 0
      · have H3 : Hid (∀ t (ht : t < L.length), t < (p + q) / 2 + 1 → M.cfS L[t].1 k < 0) := A1.out hc
        clear A1 A2 H1 hu hr
        go_wp2_with fail
        refine (fcmpS _ _ _ _).mono ?_
        rintro e w1 ⟨rfl, b1⟩
        go_wp2_with fail
        go_roundw
        case rel => exact ⟨(p + q) / 2 + 1, q, by omega, by omega, by go_num, rfl, H3.out, H2.out, hb.tr b1⟩
        case measure => simp [intOf]; omega
      · have hc' : 0 ≤ M.cfS E.1 k := by omega
        have H3 : Hid (∀ t (ht : t < L.length), (p + q) / 2 ≤ t → 0 ≤ M.cfS L[t].1 k) := A2.out hc'
        clear A1 A2 H2 hu hr
        go_wp2_with fail
        refine (fcmpS _ _ _ _).mono ?_
        rintro e w1 ⟨rfl, b1⟩
        go_wp2_with fail
        go_roundw
        case rel => exact ⟨p, (p + q) / 2, by omega, by omega, rfl, by go_num, H1.out, H3.out, hb.tr b1⟩
        case measure => simp [intOf]; omega
    · have hpe : p = q := by omega
      subst hpe
      have HP : Hid (M.pos M.cfS L k = p) := (M.pos_unique L k p hq H1.out (fun h => by have := H2.out p h (by omega); omega)).symm
      have HH : Hid (M.has M.cfS L k = if h : p < L.length then decide (M.cfS (L[p]'h).1 k = 0) else false) := by
        show _ = _
        have := M.has_eq (cf := M.cfS) L k
        rw [this]
        have e := HP.out
        subst e
        rfl
      clear H1 H2 hu
      by_cases hp : p < L.length
      · obtain ⟨c1, c2⟩ := (hr.bel hb) p hp
        have HH2 : Hid (M.has M.cfS L k = decide (M.cfS L[p].1 k = 0)) := by show _ = _; rw [HH.out, dif_pos hp]
        clear HH hr
        generalize L[p] = E at *
        go_wp2_with fail
        refine (fcmpS _ _ _ _).mono ?_
        rintro e w1 ⟨rfl, b1⟩
        go_wp2_with fail
        go_ret2
        exact ⟨by rw [HH2.out, HP.out]; rfl, hb.tr b1⟩
      · have HH2 : Hid (M.has M.cfS L k = false) := by show _ = _; rw [HH.out, dif_neg hp]
        clear HH hr
        go_wp2_with fail
        go_ret2
        exact ⟨by rw [HH2.out, HP.out]; rfl, hb⟩
set_option maxHeartbeats 1000000 in
theorem bsfS_none (a : Option Addr) (cap : Nat) (k : List UInt8) (w : World) :
    Calls Try.prog 47 #[.slice a 0 cap, (Value.string (M.bs k)), .func (.func 48) #[] #[]] w fun e w' => e = .returned (.tuple #[.int .i64 0, .bool false]) ∧ Bel w w' := by
  go_enter Try.func47, Try.ntmps47
  go_wp2_with fail
  refine wp_loop_rounds 1 ?_
  rw [rounds_succ]
  go_wp2_with fail
  go_ret2
  exact ⟨rfl, Below.refl _ _⟩

/-- The cells that L makes. -/
def csS (L : M.Ents (List UInt8)) : List Value := L.flatMap fun e => [(Value.string (M.bs e.1)), .int .i64 e.2]
theorem csS_length (L : M.Ents (List UInt8)) : (csS L).length = L.length * 2 := by
  induction L with
  | nil => rfl
  | cons v L ih => simp only [csS, List.flatMap_cons, List.length_append, List.length_cons, List.length_nil] at *; omega
theorem csS_append (L L' : M.Ents (List UInt8)) : csS (L ++ L') = csS L ++ csS L' := by simp [csS]
theorem csS_take (L : M.Ents (List UInt8)) (i : Nat) (h : i ≤ L.length) : csS (L.take i) = (csS L).take (i * 2) := by
  conv => rhs; rw [← List.take_append_drop i L, csS_append]
  rw [List.take_left' (by rw [csS_length, List.length_take]; omega)]
theorem csS_drop (L : M.Ents (List UInt8)) (i : Nat) (h : i ≤ L.length) : csS (L.drop i) = (csS L).drop (i * 2) := by
  conv => rhs; rw [← List.take_append_drop i L, csS_append]
  rw [List.drop_left' (by rw [csS_length, List.length_take]; omega)]
theorem csS_at : ∀ (L : M.Ents (List UInt8)) (j : Nat) (h : j < L.length), (csS L)[j * 2]? = some (Value.string (M.bs (L[j].1))) ∧ (csS L)[j * 2 + 1]? = some (.int .i64 L[j].2)
  | v :: L, 0, _ => by simp [csS, List.flatMap_cons]
  | v :: L, j + 1, h => by
    have := csS_at L j (by simpa using h)
    simp only [csS, List.flatMap_cons, List.cons_append, List.nil_append, List.getElem_cons_succ] at *
    rw [show (j + 1) * 2 = j * 2 + 1 + 1 by omega]
    simpa using this
theorem csS_one (L : M.Ents (List UInt8)) : ∀ u ∈ csS L, u.oneCell' = true := by
  intro u hu
  simp only [csS, List.mem_flatMap] at hu
  obtain ⟨e, _, hu⟩ := hu
  simp at hu
  rcases hu with rfl | rfl <;> rfl
theorem rowS_of {X : Nat → Prop} {w : World} {v : Value} {L : M.Ents (List UInt8)} (h : Own 70 2 X w v L.length (csS L)) : v = .slice none 0 0 ∧ L = [] ∨ ∃ g cap, v = .slice (some ⟨g, 0, none⟩) L.length cap ∧ RowS w g 0 L := by
  have h' := h.1
  obtain ⟨⟨hlen, ⟨h1, h2⟩ | ⟨g, cap, cur, hv, hg, hh, hn, hm, hs, ht⟩⟩, _⟩ := h
  · exact .inl ⟨h1, List.length_eq_zero_iff.1 h2⟩
  · refine .inr ⟨g, cap, hv, fun j hj => ?_⟩
    have hc := World.ownsRow.cells h' (g := g) (by rw [hv]; rfl)
    have ha : ∀ i, (⟨g, 0, none⟩ : Addr).add i = ⟨g, 0 + i, none⟩ := fun i => by unfold Addr.add; split <;> simp_all
    obtain ⟨k0, k1⟩ := csS_at L j hj
    refine ⟨?_, ?_⟩
    · rw [← ha]; exact hc _ _ k0
    · rw [Nat.add_assoc, ← ha]; exact hc _ _ k1
/-- A map at b holds L. -/
abbrev MapS (X : Nat → Prop) (w : World) (b : Nat) (L : M.Ents (List UInt8)) : Prop := Held 70 2 26 X w b L.length (csS L)
set_option maxHeartbeats 1000000 in
theorem findS (X : Nat → Prop) (L : M.Ents (List UInt8)) (hu : M.Up M.cfS L) (k : List UInt8) (b : Nat) (w : World) (hL : L.length ≤ 1000) (hm : MapS X w b L) :
    Calls Try.prog 31 #[.pointer (some ⟨b, 0, none⟩), (Value.string (M.bs k))] w fun e w' => e = .returned (.tuple #[.int .i64 (M.pos M.cfS L k : Nat), .bool (M.has M.cfS L k)]) ∧ Bel w w' := by
  obtain ⟨v, hb, _, ho, _⟩ := hm
  have c := hb.cell
  rcases rowS_of ho with ⟨rfl, rfl⟩ | ⟨g, cap, rfl, hr⟩
  · clear hb ho
    go_enter Try.func31, Try.ntmps31
    go_wp2_with fail
    refine (bsfS_none _ _ _ _).mono ?_
    rintro e w1 ⟨rfl, b1⟩
    go_wp2_with fail
    go_ret2
    exact ⟨rfl, b1⟩
  · clear hb ho
    go_enter Try.func31, Try.ntmps31
    go_wp2_with fail
    refine (bsfS L hu _ _ _ _ _ hL hr).mono ?_
    rintro e w1 ⟨rfl, b1⟩
    go_wp2_with fail
    go_ret2
    exact ⟨rfl, b1⟩
/-- The cells from ⟨b, off⟩ on hold the entries of L, two cells each. -/
def RowI (w : World) (b off : Nat) (L : M.Ents (Int)) : Prop := ∀ j (h : j < L.length),
  w.cell? ⟨b, off + j * 2, none⟩ = some (Value.int .i64 (L[j].1)) ∧ w.cell? ⟨b, off + j * 2 + 1, none⟩ = some (.int .i64 L[j].2)
theorem RowI.lt {w : World} {b off : Nat} {L : M.Ents (Int)} (h : RowI w b off L) (hL : 0 < L.length) : b < w.heap.size := block_lt_of_cell (h 0 hL).1
theorem RowI.bel {w w' : World} {b off : Nat} {L : M.Ents (Int)} (h : RowI w b off L) (hb : Bel w w') : RowI w' b off L := fun j hj =>
  have hB := h.lt (by omega)
  ⟨(hb.cell (p := ⟨b, off + j * 2, none⟩) hB).trans (h j hj).1, (hb.cell (p := ⟨b, off + j * 2 + 1, none⟩) hB).trans (h j hj).2⟩
set_option maxHeartbeats 400000 in
theorem fcmpI (a : Int) (v : Int) (k : Int) (w : World) : Calls Try.prog 56 #[.agg #[(Value.int .i64 a), .int .i64 v], (Value.int .i64 k)] w fun e w' => e = .returned (.int .i64 (M.cfI a k)) ∧ Bel w w' := by
  go_enter Try.func56, Try.ntmps56
  go_wp2_with fail
  refine (compareI _ _ _).mono ?_
  rintro e w' ⟨rfl, rfl⟩
  go_wp2_with fail
  go_ret
  exact ⟨rfl, Bel.al (Below.refl _ _) _⟩
set_option maxHeartbeats 1000000 in
theorem bsfI (L : M.Ents (Int)) (hu : M.Up M.cfI L) (k : Int) (b off cap : Nat) (w : World) (hL : L.length ≤ 1000) (hr : RowI w b off L) :
    Calls Try.prog 55 #[.slice (some ⟨b, off, none⟩) L.length cap, (Value.int .i64 k), .func (.func 56) #[] #[]] w fun e w' => e = .returned (.tuple #[.int .i64 (M.pos M.cfI L k : Nat), .bool (M.has M.cfI L k)]) ∧ Bel w w' := by
  go_enter Try.func55, Try.ntmps55
  go_wp2_with fail
  go_loopw [9, 10] (fun i j wr => ∃ p q : Nat, p ≤ q ∧ q ≤ L.length ∧ i = .int .i64 p ∧ j = .int .i64 q ∧ Hid (∀ t (ht : t < L.length), t < p → M.cfI L[t].1 k < 0) ∧ Hid (∀ t (ht : t < L.length), q ≤ t → 0 ≤ M.cfI L[t].1 k) ∧ Bel w wr) (fun i j _ => (intOf j - intOf i).toNat)
  case atStart => exact ⟨0, L.length, by omega, by omega, rfl, rfl, fun t _ h => by omega, fun t ht h => by omega, Below.refl _ _⟩
  case round =>
    obtain ⟨p, q, hpq, hq, rfl, rfl, H1, H2, hb⟩ := hrel
    by_cases hlt : p < q
    · have hm : (p + q) / 2 < L.length := by omega
      obtain ⟨c1, c2⟩ := (hr.bel hb) ((p + q) / 2) hm
      have A1 : Hid (M.cfI L[(p + q) / 2].1 k < 0 → ∀ t (ht : t < L.length), t < (p + q) / 2 + 1 → M.cfI L[t].1 k < 0) := fun h => M.up_lt M.ordI hu hm h
      have A2 : Hid (0 ≤ M.cfI L[(p + q) / 2].1 k → ∀ t (ht : t < L.length), (p + q) / 2 ≤ t → 0 ≤ M.cfI L[t].1 k) := fun h t ht htt => by
        have := M.up_ge M.ordI hu (k := k) hm (by omega) t ht htt; omega
      generalize L[(p + q) / 2] = E at *
      by_cases hc : M.cfI E.1 k < 0
      · have H3 : Hid (∀ t (ht : t < L.length), t < (p + q) / 2 + 1 → M.cfI L[t].1 k < 0) := A1.out hc
        clear A1 A2 H1 hu hr
        go_wp2_with fail
        refine (fcmpI _ _ _ _).mono ?_
        rintro e w1 ⟨rfl, b1⟩
        go_wp2_with fail
        go_roundw
        case rel => exact ⟨(p + q) / 2 + 1, q, by omega, by omega, by go_num, rfl, H3.out, H2.out, hb.tr b1⟩
        case measure => simp [intOf]; omega
      · have hc' : 0 ≤ M.cfI E.1 k := by omega
        have H3 : Hid (∀ t (ht : t < L.length), (p + q) / 2 ≤ t → 0 ≤ M.cfI L[t].1 k) := A2.out hc'
        clear A1 A2 H2 hu hr
        go_wp2_with fail
        refine (fcmpI _ _ _ _).mono ?_
        rintro e w1 ⟨rfl, b1⟩
        go_wp2_with fail
        go_roundw
        case rel => exact ⟨p, (p + q) / 2, by omega, by omega, rfl, by go_num, H1.out, H3.out, hb.tr b1⟩
        case measure => simp [intOf]; omega
    · have hpe : p = q := by omega
      subst hpe
      have HP : Hid (M.pos M.cfI L k = p) := (M.pos_unique L k p hq H1.out (fun h => by have := H2.out p h (by omega); omega)).symm
      have HH : Hid (M.has M.cfI L k = if h : p < L.length then decide (M.cfI (L[p]'h).1 k = 0) else false) := by
        show _ = _
        have := M.has_eq (cf := M.cfI) L k
        rw [this]
        have e := HP.out
        subst e
        rfl
      clear H1 H2 hu
      by_cases hp : p < L.length
      · obtain ⟨c1, c2⟩ := (hr.bel hb) p hp
        have HH2 : Hid (M.has M.cfI L k = decide (M.cfI L[p].1 k = 0)) := by show _ = _; rw [HH.out, dif_pos hp]
        clear HH hr
        generalize L[p] = E at *
        go_wp2_with fail
        refine (fcmpI _ _ _ _).mono ?_
        rintro e w1 ⟨rfl, b1⟩
        go_wp2_with fail
        go_ret2
        exact ⟨by rw [HH2.out, HP.out]; rfl, hb.tr b1⟩
      · have HH2 : Hid (M.has M.cfI L k = false) := by show _ = _; rw [HH.out, dif_neg hp]
        clear HH hr
        go_wp2_with fail
        go_ret2
        exact ⟨by rw [HH2.out, HP.out]; rfl, hb⟩
set_option maxHeartbeats 1000000 in
theorem bsfI_none (a : Option Addr) (cap : Nat) (k : Int) (w : World) :
    Calls Try.prog 55 #[.slice a 0 cap, (Value.int .i64 k), .func (.func 56) #[] #[]] w fun e w' => e = .returned (.tuple #[.int .i64 0, .bool false]) ∧ Bel w w' := by
  go_enter Try.func55, Try.ntmps55
  go_wp2_with fail
  refine wp_loop_rounds 1 ?_
  rw [rounds_succ]
  go_wp2_with fail
  go_ret2
  exact ⟨rfl, Below.refl _ _⟩

/-- The cells that L makes. -/
def csI (L : M.Ents (Int)) : List Value := L.flatMap fun e => [(Value.int .i64 e.1), .int .i64 e.2]
theorem csI_length (L : M.Ents (Int)) : (csI L).length = L.length * 2 := by
  induction L with
  | nil => rfl
  | cons v L ih => simp only [csI, List.flatMap_cons, List.length_append, List.length_cons, List.length_nil] at *; omega
theorem csI_append (L L' : M.Ents (Int)) : csI (L ++ L') = csI L ++ csI L' := by simp [csI]
theorem csI_take (L : M.Ents (Int)) (i : Nat) (h : i ≤ L.length) : csI (L.take i) = (csI L).take (i * 2) := by
  conv => rhs; rw [← List.take_append_drop i L, csI_append]
  rw [List.take_left' (by rw [csI_length, List.length_take]; omega)]
theorem csI_drop (L : M.Ents (Int)) (i : Nat) (h : i ≤ L.length) : csI (L.drop i) = (csI L).drop (i * 2) := by
  conv => rhs; rw [← List.take_append_drop i L, csI_append]
  rw [List.drop_left' (by rw [csI_length, List.length_take]; omega)]
theorem csI_at : ∀ (L : M.Ents (Int)) (j : Nat) (h : j < L.length), (csI L)[j * 2]? = some (Value.int .i64 (L[j].1)) ∧ (csI L)[j * 2 + 1]? = some (.int .i64 L[j].2)
  | v :: L, 0, _ => by simp [csI, List.flatMap_cons]
  | v :: L, j + 1, h => by
    have := csI_at L j (by simpa using h)
    simp only [csI, List.flatMap_cons, List.cons_append, List.nil_append, List.getElem_cons_succ] at *
    rw [show (j + 1) * 2 = j * 2 + 1 + 1 by omega]
    simpa using this
theorem csI_one (L : M.Ents (Int)) : ∀ u ∈ csI L, u.oneCell' = true := by
  intro u hu
  simp only [csI, List.mem_flatMap] at hu
  obtain ⟨e, _, hu⟩ := hu
  simp at hu
  rcases hu with rfl | rfl <;> rfl
theorem rowI_of {X : Nat → Prop} {w : World} {v : Value} {L : M.Ents (Int)} (h : Own 80 2 X w v L.length (csI L)) : v = .slice none 0 0 ∧ L = [] ∨ ∃ g cap, v = .slice (some ⟨g, 0, none⟩) L.length cap ∧ RowI w g 0 L := by
  have h' := h.1
  obtain ⟨⟨hlen, ⟨h1, h2⟩ | ⟨g, cap, cur, hv, hg, hh, hn, hm, hs, ht⟩⟩, _⟩ := h
  · exact .inl ⟨h1, List.length_eq_zero_iff.1 h2⟩
  · refine .inr ⟨g, cap, hv, fun j hj => ?_⟩
    have hc := World.ownsRow.cells h' (g := g) (by rw [hv]; rfl)
    have ha : ∀ i, (⟨g, 0, none⟩ : Addr).add i = ⟨g, 0 + i, none⟩ := fun i => by unfold Addr.add; split <;> simp_all
    obtain ⟨k0, k1⟩ := csI_at L j hj
    refine ⟨?_, ?_⟩
    · rw [← ha]; exact hc _ _ k0
    · rw [Nat.add_assoc, ← ha]; exact hc _ _ k1
/-- A map at b holds L. -/
abbrev MapI (X : Nat → Prop) (w : World) (b : Nat) (L : M.Ents (Int)) : Prop := Held 80 2 59 X w b L.length (csI L)
set_option maxHeartbeats 1000000 in
theorem findI (X : Nat → Prop) (L : M.Ents (Int)) (hu : M.Up M.cfI L) (k : Int) (b : Nat) (w : World) (hL : L.length ≤ 1000) (hm : MapI X w b L) :
    Calls Try.prog 43 #[.pointer (some ⟨b, 0, none⟩), (Value.int .i64 k)] w fun e w' => e = .returned (.tuple #[.int .i64 (M.pos M.cfI L k : Nat), .bool (M.has M.cfI L k)]) ∧ Bel w w' := by
  obtain ⟨v, hb, _, ho, _⟩ := hm
  have c := hb.cell
  rcases rowI_of ho with ⟨rfl, rfl⟩ | ⟨g, cap, rfl, hr⟩
  · clear hb ho
    go_enter Try.func43, Try.ntmps43
    go_wp2_with fail
    refine (bsfI_none _ _ _ _).mono ?_
    rintro e w1 ⟨rfl, b1⟩
    go_wp2_with fail
    go_ret2
    exact ⟨rfl, b1⟩
  · clear hb ho
    go_enter Try.func43, Try.ntmps43
    go_wp2_with fail
    refine (bsfI L hu _ _ _ _ _ hL hr).mono ?_
    rintro e w1 ⟨rfl, b1⟩
    go_wp2_with fail
    go_ret2
    exact ⟨rfl, b1⟩
end Go.Proofs.Ytoelaemneoabfab
