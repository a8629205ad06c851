/-
  The law KeysGets, walked.
-/
import Derived.Test.YtfiopegkopfceaaKJL
import Derived.Test.YtfiopegkopfceaaKE
import Derived.Test.YtfiopegkopfceaaKY
import Derived.Deep.QuietTactic
import Derived.BigQuiet
namespace Go.Proofs.Ytfiopegkopfceaa
open Go.RowKit

theorem neq40s (w : World) (a : ByteArray) (m : Int) (c : Bool) : (binOp .neq 40 (.agg #[.string a, .int .i64 m, .bool c]) (.agg #[.string a, .int .i64 m, .bool c])).run Try.prog w = .ok (.bool false) w := by
  rw [neq40]; simp
theorem eqf40s (w : World) (a : ByteArray) (m : Int) (c : Bool) : (Op.equalIn 10000 40 (.agg #[.string a, .int .i64 m, .bool c]) (.agg #[.string a, .int .i64 m, .bool c])).run Try.prog w = .ok true w := by
  rw [run_eqFields40]; simp
theorem chk_all : ∀ (L : List M.V), M.errOf L = 0 → ∀ v ∈ L, M.chk v = 0
  | [], _, v, hv => by simp at hv
  | x :: L, h, v, hv => by
    have hx : M.chk x = 0 := by
      simp only [M.errOf] at h
      split at h
      · assumption
      · rename_i h0; exact absurd h h0
    simp only [M.errOf, if_pos hx] at h
    rcases List.mem_cons.1 hv with rfl | hv
    · exact hx
    · exact chk_all L h v hv
/-- The lists' texts. -/
theorem get_put (l : List UInt8) (hl : l.length ≤ 500) : (M.get l).1.length ≤ 400 ∧ (∀ v ∈ (M.get l).1, v.1.length ≤ maxLen) ∧ (((M.get l).2 ≠ 0) ∨ M.put (M.get l).1 = (l, 0)) := by
  by_cases h : (M.get l).2 = 0
  · obtain ⟨h1, h2, h3⟩ := M.get_inv l h
    refine ⟨by omega, fun v hv => ?_, .inr ?_⟩
    · have := chk_all _ h1 v hv
      obtain ⟨t, n, b⟩ := v
      cases b
      · unfold M.chk at this
        rw [if_neg (by simp)] at this
        split at this
        · omega
        · rename_i hh; simp only [not_or, ne_eq, Decidable.not_not] at hh; rw [hh.1]; simp
      · have := M.chk_text this
        unfold maxLen; simp only; omega
    · unfold M.put; rw [if_pos h1, h2]
  · rw [M.get_err l h]
    exact ⟨by simp, by simp, .inl h⟩

set_option maxHeartbeats 4000000 in
theorem gets_law (s : ByteArray) (w : World) (hs : s.size ≤ maxLen) :
    Calls Try.prog 4 #[.string s] w fun e w' => e = .returned (.bool true) ∧ Bel w w' := by
  unfold maxLen at hs
  by_cases h5 : 500 < s.size
  · go_enter Try.func4, Try.ntmps4
    go_wp2_with fail
    refine (speaks_any _).mono ?_
    rintro e w1 ⟨rfl, b1⟩
    go_wp2_with fail
    go_ret
    exact ⟨rfl, b1⟩
  · have h6 : s.data.toList.length ≤ 500 := by rw [← Lib.size_eq]; omega
    have H0 := fun W => get_any s.data.toList W (by omega)
    rw [M.bs_of] at H0
    have H1 := fun W => refGet_any s W (by omega)
    obtain ⟨z1, z2, z3⟩ := get_put s.data.toList h6
    have PP := fun x W hv => put_any (M.get s.data.toList).1 x W hv z1 z2
    have z4 : ((M.get s.data.toList).2 ≠ 0) ∨ ((M.put (M.get s.data.toList).1).2 = 0 ∧ ((M.bs (M.put (M.get s.data.toList).1).1).toList == s.toList) = true) := by
      rcases z3 with h | h
      · exact .inl h
      · right; rw [h]; refine ⟨rfl, ?_⟩
        rw [M.bs_of]; simp
    clear z3 z2
    generalize (M.get s.data.toList).1 = A at *
    generalize (M.get s.data.toList).2 = E at *
    generalize M.bs (M.put A).1 = SA at *
    generalize (M.put A).2 = G at *
    have k40 := neq40s
    have f40 := eqf40s
    have g40 := guard40
    go_enter Try.func4, Try.ntmps4
    go_wp2_with fail
    refine (speaks_any _).mono ?_
    rintro e w1 ⟨rfl, b1⟩
    go_wp2_with fail
    refine (H0 _).mono ?_
    rintro e w2 ⟨x0, rfl, o0, b2⟩
    go_wp2_with fail
    refine (H1 _).mono ?_
    rintro e w3 ⟨x1, rfl, o1, b3⟩
    have r0' := (o0.bel b3).vals
    have PA := fun W hb => PP x0 W (r0'.bel hb)
    obtain ⟨a0, c0, rfl, r0⟩ := r0'
    obtain ⟨a1, c1, rfl, r1⟩ := o1.vals
    have bb : Bel w w3 := (b1.tr b2).tr b3
    clear o0 o1 PP H0 H1 b1 b2 b3
    go_wp2_with fail
    go_loopw [7] (fun i wr => ∃ k : Nat, k ≤ A.length ∧ i = .int .i64 k ∧ Bel w3 wr) (fun i _ => A.length - (intOf i).toNat)
    case atStart => exact ⟨0, by omega, rfl, Below.refl _ _⟩
    case round =>
      obtain ⟨k, hk, rfl, hb⟩ := hrel
      by_cases hlt : k < A.length
      · obtain ⟨g0, off0, ha0, row0⟩ := r0.resolve_left (fun h => by rw [h] at hlt; simp at hlt)
        obtain ⟨g1, off1, ha1, row1⟩ := r1.resolve_left (fun h => by rw [h] at hlt; simp at hlt)
        subst ha0 ha1
        obtain ⟨d0, d1, d2⟩ := (row0.below hb (row0.lt (by omega))) k hlt
        obtain ⟨f0, f1, f2⟩ := (row1.below hb (row1.lt (by omega))) k hlt
        clear r0 r1 row0 row1 PA z4
        generalize A[k] = va at *
        obtain ⟨ta, na, fa⟩ := va
        have p1 : (0 : Int) ≤ (k : Int) := by omega
        have p2 : (k : Int) < (A.length : Int) := by omega
        go_wp2
        go_quiet (fail)
        go_wp2
        go_roundw
        case rel => exact ⟨k + 1, by omega, by go_num, Bel.tr hb (below_drewN (Below.refl _ _) _)⟩
        case measure => simp [intOf]; omega
      · rcases z4 with hE | ⟨rfl, hq⟩
        · have q : ((E : Int) != 0) = true := by rw [bne_iff_ne]; omega
          go_wp2_with fail
          refine (PA _ hb).mono ?_
          rintro e w4 ⟨rfl, b4⟩
          go_wp2_with fail
          go_ret
          exact ⟨rfl, bb.tr (hb.tr b4)⟩
        · by_cases hE : E = 0
          · have q : ((E : Int) != 0) = false := by subst hE; rfl
            go_wp2_with fail
            refine (PA _ hb).mono ?_
            rintro e w4 ⟨rfl, b4⟩
            go_wp2_with fail
            go_ret
            exact ⟨rfl, bb.tr (hb.tr b4)⟩
          · have q : ((E : Int) != 0) = true := by rw [bne_iff_ne]; omega
            go_wp2_with fail
            refine (PA _ hb).mono ?_
            rintro e w4 ⟨rfl, b4⟩
            go_wp2_with fail
            go_ret
            exact ⟨rfl, bb.tr (hb.tr b4)⟩
end Go.Proofs.Ytfiopegkopfceaa
