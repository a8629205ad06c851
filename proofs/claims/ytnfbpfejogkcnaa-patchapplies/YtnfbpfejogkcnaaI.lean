/-
  The contracts of the document's own Apply and Put (concordanceref06), walked.
-/
import Derived.Test.YtnfbpfejogkcnaaH
import Derived.Test.YtnfbpfejogkcnaaG
namespace Go.Proofs.Ytnfbpfejogkcnaa
open Go.RowKit

set_option maxHeartbeats 4000000 in
theorem rapply_some (s : List UInt8) (L : List M.Pc) (b off cap : Nat) (w : World) (hv : Row2 w b off L) (hL : 0 < L.length) (hL2 : L.length ≤ 65535) (hs : ∀ p ∈ L, p.2.length ≤ 100000) (hz : s.length ≤ 100000) :
    Calls Try.prog 16 #[.string (M.bs s), .slice (some ⟨b, off, none⟩) L.length cap] w fun e w' => e = .returned (.tuple #[.string (M.bs (M.apply s L).1), .int .i64 ((M.apply s L).2 : Int)]) ∧ Bel w w' := by
  have hbw := hv.lt hL
  have Hr := rright_some L b off cap w hv hL hL2 hs
  have hzs : (M.bs s).size = s.length := M.bs_size s
  by_cases hR : M.right L = true
  · have hall := M.right_all hR
    rw [hR] at Hr
    have e0 : M.apply s L = M.applyF s L := by unfold M.apply; rw [if_pos hR]
    have HE := hid e0
    clear e0 hR
    go_enter Try.func16, Try.ntmps16
    go_wp2_with fail
    refine Hr.mono ?_
    rintro e w1 ⟨rfl, b1⟩
    clear Hr
    go_wp2_with fail
    go_loopw [6] (fun i wr => ∃ k : Nat, k ≤ L.length ∧ i = .int .i64 k ∧ (∀ p ∈ L.take k, p.1 + (p.2.length : Int) ≤ (s.length : Int)) ∧ Bel w wr) (fun i _ => L.length - (intOf i).toNat)
    case atStart => exact ⟨0, Nat.zero_le _, rfl, by simp, b1⟩
    case round =>
      obtain ⟨k, hk, rfl, hle, hb⟩ := hrel
      by_cases hlt : k < L.length
      · obtain ⟨c1, c2⟩ := (hv.below hb hbw) k hlt
        have hvs := hall L[k] (List.getElem_mem hlt)
        have HS : Hid ((s.length : Int) < L[k].1 + (L[k].2.length : Int) → M.applyF s L = ([], 6)) := fun h => M.applyF_some L s (fun p hp => (hall p hp).1) ⟨L[k], List.getElem_mem hlt, h⟩
        have HN : Hid (L[k].1 + (L[k].2.length : Int) ≤ (s.length : Int) → ∀ p ∈ L.take (k + 1), p.1 + (p.2.length : Int) ≤ (s.length : Int)) := fun h p hp => by
          rw [List.take_succ_eq_append_getElem hlt] at hp
          rcases List.mem_append.1 hp with hp | hp
          · exact hle p hp
          · rw [List.mem_singleton.1 hp]; exact h
        clear hle hv hall hs
        generalize L[k] = v at *
        obtain ⟨a, t⟩ := v
        have hzt : (M.bs t).size = t.length := M.bs_size t
        simp only at hvs c1 c2
        obtain ⟨ha0, ha1, _, htl⟩ := hvs
        by_cases hbig : (s.length : Int) < a + (t.length : Int)
        · have HF := hid (HE.out.trans (HS.out hbig))
          clear HS HN HE
          go_wp2_with fail
          go_quiet (fail)
          have b0 : Bel wr (wr.drewN nq) := below_drewN (Below.refl _ _) _
          generalize wr.drewN nq = W1 at b0 ⊢
          go_wp2_with fail
          go_ret2
          exact ⟨by rw [HF.out]; rfl, hb.tr b0⟩
        · have HF := hid (HN.out (by simp only; omega))
          clear HS HN
          go_wp2_with fail
          go_quiet (fail)
          have b0 : Bel wr (wr.drewN nq) := below_drewN (Below.refl _ _) _
          generalize wr.drewN nq = W1 at b0 ⊢
          go_wp2_with fail
          go_roundw
          case rel => exact ⟨k + 1, by omega, by go_num, HF.out, hb.tr b0⟩
          case measure => simp [intOf]; omega
      · have hin : ∀ p ∈ L, 0 ≤ p.1 ∧ p.1 + (p.2.length : Int) ≤ (s.length : Int) := fun p hp => by
          rw [List.take_of_length_le (by omega)] at hle
          exact ⟨(hall p hp).1, hle p hp⟩
        have HF : Hid (M.apply s L = (M.puts s L, 0)) := by show _ = _; rw [HE.out, M.applyF_none L s hin]
        have HB := hid hb
        clear hle HE hall hs hb
        go_wp2_with fail
        go_loopw [0, 7] (fun sv i wr' => ∃ k : Nat, k ≤ L.length ∧ i = .int .i64 k ∧ sv = .string (M.bs (M.puts s (L.take k))) ∧ Bel w wr') (fun _ i _ => L.length - (intOf i).toNat)
        case atStart => exact ⟨0, Nat.zero_le _, rfl, rfl, HB.out⟩
        case round =>
          obtain ⟨j, hj, rfl, rfl, hb⟩ := hrel
          by_cases hjl : j < L.length
          · obtain ⟨c1, c2⟩ := (hv.below hb hbw) j hjl
            have hvs := hin L[j] (List.getElem_mem hjl)
            have hcl : (M.puts s (L.take j)).length = s.length := M.puts_length _ _ (fun p hp => hin p (List.mem_of_mem_take hp))
            have HT : Hid (M.puts s (L.take (j + 1)) = M.put1 (M.puts s (L.take j)) L[j].1.toNat L[j].2) := by show _ = _; rw [List.take_succ_eq_append_getElem hjl, M.puts_snoc]
            clear hin hv
            generalize M.puts s (L.take j) = cur at *
            generalize L[j] = v at *
            obtain ⟨a, t⟩ := v
            simp only at hvs c1 c2
            obtain ⟨ha0, hal⟩ := hvs
            obtain ⟨a, rfl⟩ := Int.eq_ofNat_of_zero_le ha0
            rw [Hid, Int.toNat_natCast] at HT
            have HT2 : Hid (M.puts s (L.take (j + 1)) = M.put1 cur a t) := HT
            clear HT
            have hzc : (M.bs cur).size = s.length := by rw [M.bs_size, hcl]
            have hzt : (M.bs t).size = t.length := M.bs_size t
            have hx1 : (M.bs cur).extract 0 a = M.bs (cur.take a) := by rw [sub_bs, List.drop_zero, Nat.sub_zero]
            have hx2 : (M.bs cur).extract (a + t.length) s.length = M.bs (cur.drop (a + t.length)) := by rw [sub_bs, List.take_of_length_le (by rw [List.length_drop]; omega)]
            have z1 : (M.bs (cur.take a)).size = a := by rw [M.bs_size, List.length_take]; omega
            have z2 : (M.bs (cur.drop (a + t.length))).size = s.length - (a + t.length) := by rw [M.bs_size, List.length_drop, hcl]
            have z3 : (M.bs (cur.take a) ++ M.bs t).size = a + t.length := by rw [M.bs_append, M.bs_size, List.length_append, List.length_take]; omega
            have HAp : Hid (M.bs (cur.take a) ++ M.bs t ++ M.bs (cur.drop (a + t.length)) = M.bs (M.put1 cur a t)) := by show _ = _; rw [M.bs_append, M.bs_append]; rfl
            generalize M.bs (cur.take a) = S1 at *
            generalize M.bs (cur.drop (a + t.length)) = S2 at *
            have p1 : ((a : Int) + (t.length : Int)).toNat = a + t.length := by omega
            have p2 : (0 : Int) ≤ (a : Int) + (t.length : Int) := by omega
            have p3 : (a : Int) ≤ (s.length : Int) := by omega
            go_wp2_with fail
            go_quiet (fail)
            have b0 : Bel wr (wr.drewN nq) := below_drewN (Below.refl _ _) _
            generalize wr.drewN nq = W1 at b0 ⊢
            go_wp2_with fail
            go_roundw
            case rel => exact ⟨j + 1, by omega, by go_num, by rw [HT2.out, ← HAp.out], hb.tr b0⟩
            case measure => simp [intOf]; omega
          · have HT : Hid (L.take j = L) := by show _ = _; rw [List.take_of_length_le (by omega)]
            clear hin
            go_wp2_with fail
            go_ret2
            exact ⟨by rw [HF.out, HT.out]; rfl, hb⟩
  · have e0 : M.apply s L = ([], 1) := by unfold M.apply; rw [if_neg hR]
    rw [e0]
    rw [Bool.not_eq_true] at hR
    rw [hR] at Hr
    clear e0 hR
    go_enter Try.func16, Try.ntmps16
    go_wp2_with fail
    refine Hr.mono ?_
    rintro e w1 ⟨rfl, b1⟩
    go_wp2_with fail
    go_ret2
    exact ⟨rfl, b1⟩
theorem rapply_nil (s : List UInt8) (a : Option Addr) (cap : Nat) (w : World) :
    Calls Try.prog 16 #[.string (M.bs s), .slice a 0 cap] w fun e w' => e = .returned (.tuple #[.string (M.bs (M.apply s []).1), .int .i64 ((M.apply s []).2 : Int)]) ∧ Bel w w' := by
  have Hr := rright_nil a cap w
  have e1 : M.right [] = true := rfl
  have e2 : M.apply s [] = (s, 0) := rfl
  rw [e1] at Hr
  rw [e2]
  clear e1 e2
  go_enter Try.func16, Try.ntmps16
  go_wp2_with fail
  refine Hr.mono ?_
  rintro e w1 ⟨rfl, b1⟩
  clear Hr
  go_wp2_with fail
  refine wp_loop_rounds 1 ?_
  rw [rounds_succ]
  go_wp2_with fail
  refine wp_loop_rounds 1 ?_
  rw [rounds_succ]
  go_wp2_with fail
  go_ret2
  exact ⟨rfl, b1⟩
/-- The document's 'Apply' of any pieces. -/
theorem rapply_any (s : List UInt8) (L : List M.Pc) (x : Value) (w : World) (hv : Vals w x L) (hL2 : L.length ≤ 65535) (hs : ∀ p ∈ L, p.2.length ≤ 100000) (hz : s.length ≤ 100000) :
    Calls Try.prog 16 #[.string (M.bs s), x] w fun e w' => e = .returned (.tuple #[.string (M.bs (M.apply s L).1), .int .i64 ((M.apply s L).2 : Int)]) ∧ Bel w w' := by
  obtain ⟨a, cap, rfl, hv⟩ := hv
  by_cases h0 : L = []
  · subst h0; exact rapply_nil s a cap w
  · obtain h | ⟨b, off, rfl, hr⟩ := hv
    · exact absurd h h0
    · refine rapply_some s L b off cap w hr ?_ hL2 hs hz
      have : L.length ≠ 0 := fun h => h0 (List.length_eq_zero_iff.1 h)
      omega
end Go.Proofs.Ytnfbpfejogkcnaa
