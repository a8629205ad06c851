/-
  The contracts of concordanceref01.Compare and Lists, walked.
-/
import Derived.Test.YtfiopegkopfceaaKA
import Derived.Test.YtfiopegkopfceaaKX
namespace Go.Proofs.Ytfiopegkopfceaa
open Go.RowKit

set_option maxHeartbeats 1000000 in
theorem refCompare_any (t u : ByteArray) (m n : Int) (b c : Bool) (w : World) (ht : t.size ≤ 1000000) (hu : u.size ≤ 1000000) :
    Calls Try.prog 17 #[.agg #[.string t, .int .i64 m, .bool b], .agg #[.string u, .int .i64 n, .bool c]] w fun e w' => e = .returned (.int .i64 (cmpV (t.data.toList, m, b) (u.data.toList, n, c))) ∧ Bel w w' := by
  cases b <;> cases c
  · rcases Int.lt_trichotomy m n with h | h | h
    · have HC : Hid (cmpV (t.data.toList, m, false) (u.data.toList, n, false) = -1) := by show cmpI m n = _; unfold cmpI; rw [if_pos h]
      go_enter Try.func17, Try.ntmps17
      go_wp2_with fail
      go_ret
      exact ⟨by rw [HC.out]; rfl, Bel.al (Bel.al (Below.refl _ _) _) _⟩
    · subst h
      have HC : Hid (cmpV (t.data.toList, m, false) (u.data.toList, m, false) = 0) := by show cmpI m m = _; unfold cmpI; rw [if_neg (by omega), if_neg (by omega)]
      go_enter Try.func17, Try.ntmps17
      go_wp2_with fail
      go_ret
      exact ⟨by rw [HC.out]; rfl, Bel.al (Bel.al (Below.refl _ _) _) _⟩
    · have HC : Hid (cmpV (t.data.toList, m, false) (u.data.toList, n, false) = 1) := by show cmpI m n = _; unfold cmpI; rw [if_neg (by omega), if_pos h]
      have h' : ¬ m < n := by omega
      go_enter Try.func17, Try.ntmps17
      go_wp2_with fail
      go_ret
      exact ⟨by rw [HC.out]; rfl, Bel.al (Bel.al (Below.refl _ _) _) _⟩
  · go_enter Try.func17, Try.ntmps17
    go_wp2_with fail
    go_ret
    exact ⟨rfl, Bel.al (Bel.al (Below.refl _ _) _) _⟩
  · go_enter Try.func17, Try.ntmps17
    go_wp2_with fail
    go_ret
    exact ⟨rfl, Bel.al (Bel.al (Below.refl _ _) _) _⟩
  · go_enter Try.func17, Try.ntmps17
    go_wp2_with fail
    refine (bytes_any _ _ _ ht hu).mono ?_
    rintro e w' ⟨rfl, b1⟩
    go_wp2_with fail
    go_ret
    exact ⟨rfl, Bel.tr (Bel.al (Bel.al (Below.refl _ _) _) _) b1⟩

theorem drop_cons {α : Type} (A : List α) (k : Nat) (h : k < A.length) : A.drop k = A[k] :: A.drop (k + 1) := List.drop_eq_getElem_cons h
theorem cmpL_step (A B : List M.V) (k : Nat) (ha : k < A.length) (hb : k < B.length) : cmpL (A.drop k) (B.drop k) = if cmpV A[k] B[k] = 0 then cmpL (A.drop (k + 1)) (B.drop (k + 1)) else cmpV A[k] B[k] := by
  rw [drop_cons A k ha, drop_cons B k hb, cmpL]
theorem cmpL_endA (A B : List M.V) (k : Nat) (ha : ¬ k < A.length) (hb : k < B.length) : cmpL (A.drop k) (B.drop k) = -1 := by
  rw [List.drop_eq_nil_of_le (by omega : A.length ≤ k), drop_cons B k hb]; rfl
theorem cmpL_endB (A B : List M.V) (k : Nat) (ha : k < A.length) (hb : ¬ k < B.length) : cmpL (A.drop k) (B.drop k) = 1 := by
  rw [List.drop_eq_nil_of_le (by omega : B.length ≤ k), drop_cons A k ha]; rfl
theorem cmpL_end (A B : List M.V) (k : Nat) (ha : ¬ k < A.length) (hb : ¬ k < B.length) : cmpL (A.drop k) (B.drop k) = 0 := by
  rw [List.drop_eq_nil_of_le (by omega : B.length ≤ k), List.drop_eq_nil_of_le (by omega : A.length ≤ k)]; rfl

set_option maxHeartbeats 2000000 in
theorem lists_any (A B : List M.V) (x y : Value) (w : World) (hx : Vals w x A) (hy : Vals w y B) (hA : A.length ≤ 100) (hB : B.length ≤ 100) (sA : ∀ v ∈ A, v.1.length ≤ 50) (sB : ∀ v ∈ B, v.1.length ≤ 50) :
    Calls Try.prog 19 #[x, y] w fun e w' => e = .returned (.int .i64 (cmpL A B)) ∧ Bel w w' := by
  obtain ⟨R, hR⟩ : ∃ R, cmpL A B = R := ⟨_, rfl⟩
  rw [hR]
  have HR : Hid (cmpL (A.drop 0) (B.drop 0) = R) := hR
  clear hR
  obtain ⟨a0, c0, rfl, r0⟩ := hx
  obtain ⟨a1, c1, rfl, r1⟩ := hy
  go_enter Try.func19, Try.ntmps19
  go_wp2_with fail
  go_loopw [5] (fun i wr => ∃ k : Nat, k ≤ A.length ∧ k ≤ B.length ∧ i = .int .i64 k ∧ cmpL (A.drop k) (B.drop k) = R ∧ Bel w wr) (fun i _ => A.length - (intOf i).toNat)
  case atStart => exact ⟨0, by omega, by omega, rfl, HR.out, Below.refl _ _⟩
  case round =>
    obtain ⟨k, hk1, hk2, rfl, hcmp, hbel⟩ := hrel
    have HC : Hid (cmpL (A.drop k) (B.drop k) = R) := hcmp
    clear hcmp HR
    by_cases hka : k < A.length
    · by_cases hkb : k < B.length
      · rw [Hid, cmpL_step A B k hka hkb] at HC
        obtain ⟨g0, off0, ha0, row0⟩ := r0.resolve_left (fun h => by rw [h] at hka; simp at hka)
        obtain ⟨g1, off1, ha1, row1⟩ := r1.resolve_left (fun h => by rw [h] at hkb; simp at hkb)
        subst ha0 ha1
        obtain ⟨d0, d1, d2⟩ := (row0.below hbel (row0.lt (by omega))) k hka
        obtain ⟨f0, f1, f2⟩ := (row1.below hbel (row1.lt (by omega))) k hkb
        have z0 := sA A[k] (List.getElem_mem hka)
        have z1 := sB B[k] (List.getElem_mem hkb)
        have hg0 := bel_lt hbel (row0.lt (by omega))
        have hg1 := bel_lt hbel (row1.lt (by omega))
        clear r0 r1 row0 row1 sA sB
        generalize A[k] = va at *
        generalize B[k] = vb at *
        obtain ⟨ta, na, fa⟩ := va
        obtain ⟨tb, nb, fb⟩ := vb
        simp only at z0 z1
        have H := fun W => refCompare_any (M.bs ta) (M.bs tb) na nb fa fb W (by rw [M.bs_size]; omega) (by rw [M.bs_size]; omega)
        rw [M.bs_data, M.bs_data] at H
        by_cases h0 : cmpV (ta, na, fa) (tb, nb, fb) = 0
        · rw [if_pos h0] at HC
          rw [h0] at H
          have HC2 : Hid (cmpL (A.drop (k + 1)) (B.drop (k + 1)) = R) := HC
          clear HC h0
          have p1 : (0 : Int) ≤ (k : Int) := by omega
          have p2 : (k : Int) < (A.length : Int) := by omega
          have p3 : (k : Int) < (B.length : Int) := by omega
          go_wp2_with fail
          go_region_held3 (fun w' => w'.cell? ⟨g0, off0 + k * 3, none⟩ = some (.string (M.bs ta)) ∧ w'.cell? ⟨g0, off0 + k * 3 + 1, none⟩ = some (.int .i64 na) ∧ w'.cell? ⟨g0, off0 + k * 3 + 2, none⟩ = some (.bool fa) ∧
              w'.cell? ⟨g1, off1 + k * 3, none⟩ = some (.string (M.bs tb)) ∧ w'.cell? ⟨g1, off1 + k * 3 + 1, none⟩ = some (.int .i64 nb) ∧ w'.cell? ⟨g1, off1 + k * 3 + 2, none⟩ = some (.bool fb)) (go_keep)
            (first
              | (go_at_call 17; refine (H _).mono ?_; rintro e w1 ⟨rfl, b1⟩; have hc0 := bel_cell b1 hg0; have hc1 := bel_cell b1 hg1))
          go_wp2_with fail
          go_roundw
          case rel => exact ⟨k + 1, by omega, by omega, by go_num, HC2.out, hbel.tr (Bel.tr (Bel.dr (Below.refl _ _)) b1)⟩
          case measure => simp [intOf]; omega
        · rw [if_neg h0] at HC
          have HC2 : Hid (R = cmpV (ta, na, fa) (tb, nb, fb)) := HC.symm
          clear HC
          generalize cmpV (ta, na, fa) (tb, nb, fb) = C at *
          have q : (C != 0) = true := by rw [bne_iff_ne]; exact h0
          clear h0
          have p1 : (0 : Int) ≤ (k : Int) := by omega
          have p2 : (k : Int) < (A.length : Int) := by omega
          have p3 : (k : Int) < (B.length : Int) := by omega
          go_wp2_with fail
          go_region_held3 (fun w' => w'.cell? ⟨g0, off0 + k * 3, none⟩ = some (.string (M.bs ta)) ∧ w'.cell? ⟨g0, off0 + k * 3 + 1, none⟩ = some (.int .i64 na) ∧ w'.cell? ⟨g0, off0 + k * 3 + 2, none⟩ = some (.bool fa) ∧
              w'.cell? ⟨g1, off1 + k * 3, none⟩ = some (.string (M.bs tb)) ∧ w'.cell? ⟨g1, off1 + k * 3 + 1, none⟩ = some (.int .i64 nb) ∧ w'.cell? ⟨g1, off1 + k * 3 + 2, none⟩ = some (.bool fb)) (go_keep)
            (first
              | (go_at_call 17; refine (H _).mono ?_; rintro e w1 ⟨rfl, b1⟩; have hc0 := bel_cell b1 hg0; have hc1 := bel_cell b1 hg1))
          go_wp2_with fail
          go_ret
          exact ⟨by rw [HC2.out]; rfl, hbel.tr (Bel.tr (Bel.dr (Below.refl _ _)) b1)⟩
      · have HC2 : Hid (R = 1) := by show _ = _; rw [← HC.out, cmpL_endB A B k hka hkb]
        clear HC
        have h' : ¬ (A.length : Int) < (B.length : Int) := by omega
        have h'' : (B.length : Int) < (A.length : Int) := by omega
        go_wp2_with fail
        go_ret
        exact ⟨by rw [HC2.out]; rfl, hbel⟩
    · by_cases hkb : k < B.length
      · have HC2 : Hid (R = -1) := by show _ = _; rw [← HC.out, cmpL_endA A B k hka hkb]
        clear HC
        have h' : (A.length : Int) < (B.length : Int) := by omega
        go_wp2_with fail
        go_ret
        exact ⟨by rw [HC2.out]; rfl, hbel⟩
      · have HC2 : Hid (R = 0) := by show _ = _; rw [← HC.out, cmpL_end A B k hka hkb]
        clear HC
        have h' : ¬ (A.length : Int) < (B.length : Int) := by omega
        have h'' : ¬ (B.length : Int) < (A.length : Int) := by omega
        go_wp2_with fail
        go_ret
        exact ⟨by rw [HC2.out]; rfl, hbel⟩
end Go.Proofs.Ytfiopegkopfceaa
