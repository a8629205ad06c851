/-
  The law KeysPuts, walked.
-/
import Derived.Test.YtfiopegkopfceaaKJL
import Derived.Test.YtfiopegkopfceaaKR
import Derived.Deep.QuietTactic
import Derived.BigQuiet
namespace Go.Proofs.Ytfiopegkopfceaa
open Go.RowKit

theorem neq36s (w : World) (a : ByteArray) (m : Int) (c : Bool) : (binOp .neq 36 (.agg #[.string a, .int .i64 m, .bool c]) (.agg #[.string a, .int .i64 m, .bool c])).run Try.prog w = .ok (.bool false) w := by
  rw [neq36]; simp
theorem eqf36s (w : World) (a : ByteArray) (m : Int) (c : Bool) : (Op.equalIn 10000 36 (.agg #[.string a, .int .i64 m, .bool c]) (.agg #[.string a, .int .i64 m, .bool c])).run Try.prog w = .ok true w := by
  rw [run_eqFields36]; simp

set_option maxHeartbeats 4000000 in
theorem puts_law (v0 : Value) (L0 : List M.V) (w : World) (hv0 : Vals w v0 L0) (hs0 : ∀ v ∈ L0, Fits v) (hm0 : L0.length ≤ maxLen) :
    Calls Try.prog 3 #[v0] w fun e w' => e = .returned (.bool true) ∧ Bel w w' := by
  have l0 := cut_length L0
  have s0 := cut_short L0
  have H0 := fun W (hv : Vals W v0 L0) => both_any L0 v0 W hv hm0 hs0
  have P0 := put_cut L0
  clear hs0 hm0
  generalize cut L0 = A at *
  have R0 := fun x W hv => refPut_any A x W hv (by omega) s0
  rw [put_err] at R0
  have k36 := neq36s
  have f36 := eqf36s
  have g36 := guard36
  go_enter Try.func3, Try.ntmps3
  go_wp2_with fail
  refine (speaks_any _).mono ?_
  rintro e w1 ⟨rfl, b1⟩
  go_wp2_with fail
  refine (H0 _ (hv0.bel b1)).mono ?_
  rintro e w2 ⟨x0, y0, rfl, o0, p0, b2⟩
  go_wp2_with fail
  refine (P0 _ _ o0.vals).mono ?_
  rintro e w3 ⟨rfl, b3⟩
  go_wp2_with fail
  refine (R0 _ _ (p0.bel b3).vals).mono ?_
  rintro e w4 ⟨rfl, b4⟩
  have r0 := (o0.bel (b3.tr b4)).vals
  have bb : Bel w w4 := ((b1.tr b2).tr b3).tr b4
  clear o0 p0 H0 P0 R0 hv0 b1 b2 b3 b4
  by_cases hA : M.errOf A = 0
  · have G := fun W => get_any (M.put A).1 W (by have := M.keyOf_length A hA; rw [put_key A hA]; omega)
    have e1 : M.get (M.put A).1 = (A, 0) := by rw [put_key A hA, M.get_key A hA]
    rw [e1] at G
    rw [hA]
    clear hA e1
    generalize M.bs (M.put A).1 = SA at *
    obtain ⟨a0, c0, rfl, r0⟩ := r0
    go_wp2_with fail
    refine (G _).mono ?_
    rintro e w5 ⟨x1, rfl, o1, b5⟩
    obtain ⟨a1, c1, rfl, r1⟩ := o1.vals
    clear o1 G
    go_wp2_with fail
    go_loopw [11] (fun i wr => ∃ k : Nat, k ≤ A.length ∧ i = .int .i64 k ∧ Bel w5 wr) (fun i _ => A.length - (intOf i).toNat)
    case atStart => exact ⟨0, by omega, rfl, Below.refl _ _⟩
    case round =>
      obtain ⟨k, hk, rfl, hb⟩ := hrel
      by_cases hlt : k < A.length
      · obtain ⟨g0, off0, ha0, row0⟩ := r0.resolve_left (fun h => by rw [h] at hlt; simp at hlt)
        obtain ⟨g1, off1, ha1, row1⟩ := r1.resolve_left (fun h => by rw [h] at hlt; simp at hlt)
        subst ha0 ha1
        have row0' := row0.below b5 (row0.lt (by omega))
        obtain ⟨d0, d1, d2⟩ := (row0'.below hb (row0'.lt (by omega))) k hlt
        obtain ⟨f0, f1, f2⟩ := (row1.below hb (row1.lt (by omega))) k hlt
        clear r0 r1 row0 row1 row0' s0
        generalize A[k] = va at *
        obtain ⟨ta, na, fa⟩ := va
        have p1 : (0 : Int) ≤ (k : Int) := by omega
        have p2 : (k : Int) < (A.length : Int) := by omega
        go_wp2
        go_quiet (fail)
        go_wp2
        go_roundw
        case rel => exact ⟨k + 1, by omega, by go_num, Bel.tr hb (below_drewN (Below.refl _ _) _)⟩
        case measure => simp [intOf]; omega
      · go_wp2_with fail
        go_ret
        exact ⟨rfl, bb.tr (b5.tr hb)⟩
  · have e3 := errOf_le A
    generalize M.errOf A = F at *
    have q : ((F : Int) != 0) = true := by rw [bne_iff_ne]; omega
    go_wp2_with fail
    go_ret
    exact ⟨rfl, bb⟩
end Go.Proofs.Ytfiopegkopfceaa
