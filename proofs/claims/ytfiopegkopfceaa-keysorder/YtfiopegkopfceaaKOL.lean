/-
  The law KeysOrder, walked.
-/
import Derived.Test.YtfiopegkopfceaaKJL
import Derived.Test.YtfiopegkopfceaaKL
namespace Go.Proofs.Ytfiopegkopfceaa
open Go.RowKit

set_option maxHeartbeats 4000000 in
theorem order_law (v0 v1 : Value) (L0 L1 : List M.V) (w : World) (hv0 : Vals w v0 L0) (hv1 : Vals w v1 L1) (hs0 : ∀ v ∈ L0, Fits v) (hs1 : ∀ v ∈ L1, Fits v) (hm0 : L0.length ≤ maxLen) (hm1 : L1.length ≤ maxLen) :
    Calls Try.prog 5 #[v0, v1] w fun e w' => e = .returned (.bool true) ∧ Bel w w' := by
  have l0 := cut_length L0
  have l1 := cut_length L1
  have s0 := cut_short L0
  have s1 := cut_short L1
  have H0 := fun W (hv : Vals W v0 L0) => both_any L0 v0 W hv hm0 hs0
  have H1 := fun W (hv : Vals W v1 L1) => both_any L1 v1 W hv hm1 hs1
  have P0 := put_cut L0
  have P1 := put_cut L1
  clear hs0 hs1 hm0 hm1
  generalize cut L0 = A at *
  generalize cut L1 = B at *
  go_enter Try.func5, Try.ntmps5
  go_wp2_with fail
  refine (speaks_any _).mono ?_
  rintro e w1 ⟨rfl, b1⟩
  go_wp2_with fail
  refine (H0 _ (hv0.bel b1)).mono ?_
  rintro e w2 ⟨x0, y0, rfl, o0, p0, b2⟩
  go_wp2_with fail
  refine (H1 _ (hv1.bel (b1.tr b2))).mono ?_
  rintro e w3 ⟨x1, y1, rfl, o1, p1, b3⟩
  have bb : Bel w w3 := (b1.tr b2).tr b3
  have ra0 := (o0.bel b3).vals
  have rv0 := (p0.bel b3).vals
  have ra1 := o1.vals
  have rv1 := p1.vals
  clear o0 o1 p0 p1 H0 H1 hv0 hv1 b1 b2 b3
  have PA := fun W hb => P0 x0 W (ra0.bel hb)
  have PB := fun W hb => P1 x1 W (ra1.bel hb)
  have LL := fun W (hb : Bel w3 W) => lists_any A B y0 y1 W (rv0.bel hb) (rv1.bel hb) (by omega) (by omega) s0 s1
  clear P0 P1
  obtain ⟨a0, c0, rfl, q0⟩ := ra0
  obtain ⟨a1, c1, rfl, q1⟩ := ra1
  obtain ⟨e0, k0, rfl, r0⟩ := rv0
  obtain ⟨e1, k1, rfl, r1⟩ := rv1
  go_wp2_with fail
  go_loopw [9] (fun i wr => ∃ k : Nat, k ≤ A.length ∧ k ≤ B.length ∧ i = .int .i64 k ∧ Bel w3 wr) (fun i _ => A.length - (intOf i).toNat)
  case atStart => exact ⟨0, by omega, by omega, rfl, Below.refl _ _⟩
  case round =>
    obtain ⟨k, hk1, hk2, rfl, hbel⟩ := hrel
    by_cases hlt : k < A.length ∧ k < B.length
    · obtain ⟨hka, hkb⟩ := hlt
      obtain ⟨g0, o0, ha0, row0⟩ := q0.resolve_left (fun h => by rw [h] at hka; simp at hka)
      obtain ⟨g1, o1, ha1, row1⟩ := q1.resolve_left (fun h => by rw [h] at hkb; simp at hkb)
      obtain ⟨g2, o2, ha2, row2⟩ := r0.resolve_left (fun h => by rw [h] at hka; simp at hka)
      obtain ⟨g3, o3, ha3, row3⟩ := r1.resolve_left (fun h => by rw [h] at hkb; simp at hkb)
      subst ha0 ha1 ha2 ha3
      have hg0 := bel_lt hbel (row0.lt (by omega))
      have hg1 := bel_lt hbel (row1.lt (by omega))
      have hg2 := bel_lt hbel (row2.lt (by omega))
      have hg3 := bel_lt hbel (row3.lt (by omega))
      obtain ⟨x00, x01, x02⟩ := (row0.below hbel (row0.lt (by omega))) k hka
      obtain ⟨x10, x11, x12⟩ := (row1.below hbel (row1.lt (by omega))) k hkb
      obtain ⟨x20, x21, x22⟩ := (row2.below hbel (row2.lt (by omega))) k hka
      obtain ⟨x30, x31, x32⟩ := (row3.below hbel (row3.lt (by omega))) k hkb
      have z0 := s0 A[k] (List.getElem_mem hka)
      have z1 := s1 B[k] (List.getElem_mem hkb)
      clear q0 q1 r0 r1 row0 row1 row2 row3 s0 s1 PA PB LL
      generalize A[k] = va at *
      generalize B[k] = vb at *
      obtain ⟨ta, na, fa⟩ := va
      obtain ⟨tb, nb, fb⟩ := vb
      simp only at z0 z1
      have H := fun W => refCompare_any (M.bs ta) (M.bs tb) na nb fa fb W (by rw [M.bs_size]; omega) (by rw [M.bs_size]; omega)
      have G := fun W => compare_any (M.bs ta) (M.bs tb) na nb fa fb W
      generalize cmpV ((M.bs ta).data.toList, na, fa) ((M.bs tb).data.toList, nb, fb) = C at *
      have p1 : (0 : Int) ≤ (k : Int) := by omega
      have p2 : (k : Int) < (A.length : Int) := by omega
      have p3 : (k : Int) < (B.length : Int) := by omega
      go_wp2_with fail
      go_region_held3 (fun w' => (w'.cell? ⟨g0, o0 + k * 3, none⟩ = some (.string (M.bs ta)) ∧ w'.cell? ⟨g0, o0 + k * 3 + 1, none⟩ = some (.int .i64 na) ∧ w'.cell? ⟨g0, o0 + k * 3 + 2, none⟩ = some (.bool fa)) ∧
          (w'.cell? ⟨g1, o1 + k * 3, none⟩ = some (.string (M.bs tb)) ∧ w'.cell? ⟨g1, o1 + k * 3 + 1, none⟩ = some (.int .i64 nb) ∧ w'.cell? ⟨g1, o1 + k * 3 + 2, none⟩ = some (.bool fb)) ∧
          (w'.cell? ⟨g2, o2 + k * 3, none⟩ = some (.string (M.bs ta)) ∧ w'.cell? ⟨g2, o2 + k * 3 + 1, none⟩ = some (.int .i64 na) ∧ w'.cell? ⟨g2, o2 + k * 3 + 2, none⟩ = some (.bool fa)) ∧
          (w'.cell? ⟨g3, o3 + k * 3, none⟩ = some (.string (M.bs tb)) ∧ w'.cell? ⟨g3, o3 + k * 3 + 1, none⟩ = some (.int .i64 nb) ∧ w'.cell? ⟨g3, o3 + k * 3 + 2, none⟩ = some (.bool fb))) (go_keep)
        (first
          | (go_at_call 16; refine (G _).mono ?_; rintro e w4 ⟨rfl, b4⟩; have hc0 := bel_cell b4 hg0; have hc1 := bel_cell b4 hg1; have hc2 := bel_cell b4 hg2; have hc3 := bel_cell b4 hg3; have hh0 := bel_lt b4 hg0; have hh1 := bel_lt b4 hg1; have hh2 := bel_lt b4 hg2; have hh3 := bel_lt b4 hg3)
          | (go_at_call 17; refine (H _).mono ?_; rintro e w5 ⟨rfl, b5⟩; have hd0 := bel_cell b5 hh0; have hd1 := bel_cell b5 hh1; have hd2 := bel_cell b5 hh2; have hd3 := bel_cell b5 hh3))
      go_wp2_with fail
      go_roundw
      case rel => exact ⟨k + 1, by omega, by omega, by go_num, hbel.tr (Bel.tr (Bel.dr (Below.refl _ _)) (b4.tr b5))⟩
      case measure => simp [intOf]; omega
    · clear q0 q1 r0 r1 s0 s1
      have hab : (k < A.length ∧ ¬ k < B.length) ∨ ¬ k < A.length := by omega
      clear hlt
      have HK : Hid (M.errOf A = 0 → M.errOf B = 0 → Lib.compareBytes (M.bs (M.put A).1).data.toList (M.bs (M.put B).1).data.toList = cmpL A B) := by
        intro h1 h2
        rw [M.bs_data, M.bs_data, put_key A h1, put_key B h2, cmp_key A B h1 h2]
      have ZA : (M.bs (M.put A).1).size ≤ 1000000 := by
        rw [M.bs_size]
        by_cases h : M.errOf A = 0
        · have := M.keyOf_length A h
          rw [put_key A h]; omega
        · rw [put_nokey A h]; simp
      have ZB : (M.bs (M.put B).1).size ≤ 1000000 := by
        rw [M.bs_size]
        by_cases h : M.errOf B = 0
        · have := M.keyOf_length B h
          rw [put_key B h]; omega
        · rw [put_nokey B h]; simp
      have e3 := errOf_le A
      have e4 := errOf_le B
      generalize M.errOf A = EA at *
      generalize M.errOf B = EB at *
      generalize M.bs (M.put A).1 = SA at *
      generalize M.bs (M.put B).1 = SB at *
      generalize cmpL A B = R at *
      by_cases hA : EA = 0
      · subst hA
        by_cases hB : EB = 0
        · subst hB
          have YY := fun W => bytes_any SA SB W ZA ZB
          rw [HK.out rfl rfl] at YY
          rcases hab with ⟨hka, hkb⟩ | hka
          all_goals
            go_wp2_with fail
            refine (PA _ hbel).mono ?_
            rintro e w4 ⟨rfl, b4⟩
            go_wp2_with fail
            refine (PB _ (hbel.tr b4)).mono ?_
            rintro e w5 ⟨rfl, b5⟩
            go_wp2_with fail
            refine (YY _).mono ?_
            rintro e w6 ⟨rfl, b6⟩
            go_wp2_with fail
            refine (LL _ (((hbel.tr b4).tr b5).tr b6)).mono ?_
            rintro e w7 ⟨rfl, b7⟩
            go_wp2_with fail
            go_ret
            exact ⟨rfl, bb.tr ((((hbel.tr b4).tr b5).tr b6).tr b7)⟩
        · have q : ((EB : Int) != 0) = true := by rw [bne_iff_ne]; omega
          rcases hab with ⟨hka, hkb⟩ | hka
          all_goals
            go_wp2_with fail
            refine (PA _ hbel).mono ?_
            rintro e w4 ⟨rfl, b4⟩
            go_wp2_with fail
            refine (PB _ (hbel.tr b4)).mono ?_
            rintro e w5 ⟨rfl, b5⟩
            go_wp2_with fail
            go_ret
            exact ⟨rfl, bb.tr ((hbel.tr b4).tr b5)⟩
      · have q : ((EA : Int) != 0) = true := by rw [bne_iff_ne]; omega
        rcases hab with ⟨hka, hkb⟩ | hka
        all_goals
          go_wp2_with fail
          refine (PA _ hbel).mono ?_
          rintro e w4 ⟨rfl, b4⟩
          go_wp2_with fail
          refine (PB _ (hbel.tr b4)).mono ?_
          rintro e w5 ⟨rfl, b5⟩
          go_wp2_with fail
          go_ret
          exact ⟨rfl, bb.tr ((hbel.tr b4).tr b5)⟩
end Go.Proofs.Ytfiopegkopfceaa
