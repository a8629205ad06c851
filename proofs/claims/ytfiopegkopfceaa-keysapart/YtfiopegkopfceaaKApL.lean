/-
  The law KeysApart, walked.
-/
import Derived.Test.YtfiopegkopfceaaKJL
import Derived.Test.YtfiopegkopfceaaKN
import Derived.Deep.QuietTactic
import Derived.BigQuiet
namespace Go.Proofs.Ytfiopegkopfceaa
open Go.RowKit

/-- So far the two lists are the same. -/
def sameTo (A B : List M.V) (k : Nat) : Bool := decide (A.length = B.length ∧ A.take k = B.take k)
theorem sameTo_end (A B : List M.V) (k : Nat) (hk : k = A.length) : sameTo A B k = decide (A = B) := by
  unfold sameTo
  rw [decide_eq_decide]
  constructor
  · rintro ⟨h1, h2⟩
    rw [List.take_of_length_le (by omega), List.take_of_length_le (by omega)] at h2
    exact h2
  · rintro rfl; exact ⟨rfl, rfl⟩
theorem sameTo_false (A B : List M.V) (k : Nat) (h : sameTo A B k = false) : decide (A = B) = false := by
  unfold sameTo at h
  rw [decide_eq_false_iff_not] at h ⊢
  rintro rfl; exact h ⟨rfl, rfl⟩
theorem sameTo_succ (A B : List M.V) (k : Nat) (h : sameTo A B k = true) (ha : k < A.length) (hb : k < B.length) :
    sameTo A B (k + 1) = ((M.bs A[k].1).toList == (M.bs B[k].1).toList && A[k].2.1 == B[k].2.1 && A[k].2.2 == B[k].2.2) := by
  unfold sameTo at *
  rw [decide_eq_true_eq] at h
  rw [Bool.eq_iff_iff, decide_eq_true_eq, M.bs_toList, M.bs_toList, Bool.and_eq_true, Bool.and_eq_true, beq_iff_eq, beq_iff_eq, beq_iff_eq, List.take_succ_eq_append_getElem ha, List.take_succ_eq_append_getElem hb, h.2]
  constructor
  · rintro ⟨_, h2⟩
    have h3 := List.append_cancel_left h2
    injection h3 with h3
    rw [h3]; exact ⟨⟨rfl, rfl⟩, rfl⟩
  · rintro ⟨⟨h1, h2⟩, h3⟩
    refine ⟨h.1, ?_⟩
    rw [Prod.ext h1 (Prod.ext h2 h3)]

set_option maxHeartbeats 4000000 in
theorem apart_law (v0 v1 : Value) (L0 L1 : List M.V) (w : World) (hv0 : Vals w v0 L0) (hv1 : Vals w v1 L1) (hs0 : ∀ v ∈ L0, Fits v) (hs1 : ∀ v ∈ L1, Fits v) (hm0 : L0.length ≤ maxLen) (hm1 : L1.length ≤ maxLen) :
    Calls Try.prog 8 #[v0, v1] w fun e w' => e = .returned (.bool true) ∧ Bel w w' := by
  have l0 := cut_length L0
  have l1 := cut_length L1
  have H0 := fun W (hv : Vals W v0 L0) => both_any L0 v0 W hv hm0 hs0
  have H1 := fun W (hv : Vals W v1 L1) => both_any L1 v1 W hv hm1 hs1
  have P0 := put_cut L0
  have P1 := put_cut L1
  clear hs0 hs1 hm0 hm1
  generalize cut L0 = A at *
  generalize cut L1 = B at *
  have k40 := eql40
  have f40 := run_eqFields40
  have g40 := guard40
  go_enter Try.func8, Try.ntmps8
  go_wp2_with fail
  refine (speaks_any _).mono ?_
  rintro e w1 ⟨rfl, b1⟩
  go_wp2_with fail
  refine (H0 _ (hv0.bel b1)).mono ?_
  rintro e w2 ⟨x0, y0, rfl, o0, p0, b2⟩
  go_wp2_with fail
  refine (H1 _ (hv1.bel (b1.tr b2))).mono ?_
  rintro e w3 ⟨x1, y1, rfl, o1, p1, b3⟩
  have o0' := o0.bel b3
  go_wp2_with fail
  refine (P0 _ _ o0'.vals).mono ?_
  rintro e w4 ⟨rfl, b4⟩
  have o1' := o1.bel b4
  go_wp2_with fail
  refine (P1 _ _ o1'.vals).mono ?_
  rintro e w5 ⟨rfl, b5⟩
  have bb : Bel w w5 := (((b1.tr b2).tr b3).tr b4).tr b5
  have r0 := (p0.bel ((b3.tr b4).tr b5)).vals
  have r1 := (p1.bel (b4.tr b5)).vals
  clear o0 o0' o1 o1' p0 p1 H0 H1 P0 P1 hv0 hv1 b1 b2 b3 b4 b5
  by_cases hA : M.errOf A = 0
  · by_cases hB : M.errOf B = 0
    · obtain ⟨a0, c0, rfl, r0⟩ := r0
      obtain ⟨a1, c1, rfl, r1⟩ := r1
      have e2 : ((M.bs (M.put A).1).toList == (M.bs (M.put B).1).toList) = decide (A = B) := by
        rw [M.bs_toList, M.bs_toList, put_key A hA, put_key B hB, M.key_inj A B hA hB]
      rw [hA, hB]
      clear hA hB
      generalize M.bs (M.put A).1 = SA at *
      generalize M.bs (M.put B).1 = SB at *
      have HE : Hid ((SA.toList == SB.toList) = decide (A = B)) := e2
      clear e2
      by_cases hlen : A.length = B.length
      · have q1 : ((A.length : Int) == (B.length : Int)) = true := by rw [beq_iff_eq]; omega
        have HS0 : Hid (sameTo A B 0 = true) := by show _ = _; unfold sameTo; simp [hlen]
        go_wp2_with fail
        go_loopw [13, 14] (fun s i wr => ∃ k : Nat, k ≤ A.length ∧ i = .int .i64 k ∧ s = .bool (sameTo A B k) ∧ Bel w5 wr) (fun _ i _ => A.length - (intOf i).toNat)
        case atStart => exact ⟨0, by omega, rfl, by rw [HS0.out], Below.refl _ _⟩
        case round =>
          obtain ⟨k, hk, rfl, rfl, hb⟩ := hrel
          cases hsk : sameTo A B k
          · have HF := sameTo_false A B k hsk
            have q2 : (SA.toList == SB.toList) = false := by rw [HE.out, HF]
            clear hsk HF
            go_wp2
            go_ret
            exact ⟨rfl, bb.tr hb⟩
          · by_cases hlt : k < A.length
            · have hltB : k < B.length := by omega
              obtain ⟨g0, off0, ha0, row0⟩ := r0.resolve_left (fun h => by rw [h] at hlt; simp at hlt)
              obtain ⟨g1, off1, ha1, row1⟩ := r1.resolve_left (fun h => by rw [h] at hltB; simp at hltB)
              subst ha0 ha1
              obtain ⟨d0, d1, d2⟩ := (row0.below hb (row0.lt (by omega))) k hlt
              obtain ⟨f0, f1, f2⟩ := (row1.below hb (row1.lt (by omega))) k hltB
              have HS := sameTo_succ A B k hsk hlt hltB
              have HS2 : Hid (sameTo A B (k + 1) = ((M.bs A[k].1).toList == (M.bs B[k].1).toList && A[k].2.1 == B[k].2.1 && A[k].2.2 == B[k].2.2)) := HS
              clear HS hsk r0 r1 row0 row1
              generalize A[k] = va at *
              generalize B[k] = vb at *
              obtain ⟨ta, na, fa⟩ := va
              obtain ⟨tb, nb, fb⟩ := vb
              have p1 : (0 : Int) ≤ (k : Int) := by omega
              have p2 : (k : Int) < (A.length : Int) := by omega
              have p3 : (k : Int) < (B.length : Int) := by omega
              go_wp2
              go_quiet (fail)
              go_wp2
              go_roundw
              case rel => exact ⟨k + 1, by omega, by go_num, by rw [HS2.out], Bel.tr hb (below_drewN (Below.refl _ _) _)⟩
              case measure => simp [intOf]; omega
            · have hke : k = A.length := by omega
              have HF := sameTo_end A B k hke
              have q2 : (SA.toList == SB.toList) = true := by rw [HE.out, ← HF, hsk]
              clear hsk HF hke
              go_wp2
              go_ret
              exact ⟨rfl, bb.tr hb⟩
      · have q1 : ((A.length : Int) == (B.length : Int)) = false := by rw [beq_eq_false_iff_ne]; omega
        have q2 : (SA.toList == SB.toList) = false := by
          rw [HE.out, decide_eq_false_iff_not]; rintro rfl; exact hlen rfl
        go_wp2_with fail
        refine wp_loop_rounds 1 ?_
        rw [rounds_succ]
        go_wp2
        go_ret
        exact ⟨rfl, bb⟩
    · have e3 := errOf_le B
      rw [hA]
      generalize M.errOf B = F at *
      have q : ((F : Int) != 0) = true := by rw [bne_iff_ne]; omega
      clear hA
      go_wp2_with fail
      go_ret
      exact ⟨rfl, bb⟩
  · have e3 := errOf_le A
    generalize M.errOf A = F at *
    have q : ((F : Int) != 0) = true := by rw [bne_iff_ne]; omega
    go_wp2_with fail
    go_ret
    exact ⟨rfl, bb⟩
end Go.Proofs.Ytfiopegkopfceaa
