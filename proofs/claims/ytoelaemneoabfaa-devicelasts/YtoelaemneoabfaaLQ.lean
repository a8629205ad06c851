/-
  The law DeviceLasts, walked.
-/
import Derived.Test.YtoelaemneoabfaaLL
import Derived.Test.YtoelaemneoabfaaLG
namespace Go.Proofs.Ytoelaemneoabfaa
open Go.RowKit

/-- What an act's cells tell, read in a later world. -/
theorem act_cells {w wr : World} {X : Nat → Prop} {a : Option Addr} {L : List Act} {m : Nat} (hs : ShowsA w a L) (hm : m < L.length) (k : Keep X w wr) (hX : ∀ j, j < w.heap.size → X j) :
    ∃ g off, a = some ⟨g, off, none⟩ ∧ g < w.heap.size ∧ wr.cell? ⟨g, off + m * 4 + 1, none⟩ = some (.int .i64 L[m].at') ∧ wr.cell? ⟨g, off + m * 4 + 2, none⟩ = some (.string (M.bs L[m].data)) ∧ L[m].data.length ≤ 9223372036854775807 := by
  obtain ⟨g, off, rfl, hrow⟩ : ∃ g off, a = some ⟨g, off, none⟩ ∧ RowA w g off L := by
    rcases hs with h | h
    · subst h; simp at hm
    · exact h
  obtain ⟨q0, q1, q2, q3, q4, q5, q6, q7, q8⟩ := hrow m hm
  have hgl := block_lt_of_cell q0
  unfold maxLen at q7
  exact ⟨g, off, rfl, hgl, (k.cell (p := ⟨g, off + m * 4 + 1, none⟩) (hX g hgl)).trans q1, (k.cell (p := ⟨g, off + m * 4 + 2, none⟩) (hX g hgl)).trans q2, by omega⟩
set_option maxRecDepth 100000 in
set_option maxHeartbeats 80000000 in
theorem lasts_some (L1 : List Act) (a1 : Option Addr) (cap1 : Nat) (L2 : List Act) (a2 : Option Addr) (cap2 : Nat) (K : List Int) (ka : Addr) (kcap : Nat) (w : World) (hL1 : L1.length ≤ maxLen) (hs1 : ShowsA w a1 L1) (hL2 : L2.length ≤ maxLen) (hs2 : ShowsA w a2 L2) (hkc : K.length ≤ kcap) (hK : ReadsN w (.slice (some ka) K.length kcap) K) :
    Calls Try.prog 4 #[.slice a1 L1.length cap1, .slice a2 L2.length cap2, .slice (some ka) K.length kcap] w fun e w' => e = .returned (.bool true) ∧ Bel w w' := by
  obtain ⟨nk, hnk, hnk', hnk9⟩ : ∃ nk : Nat, min (K.length : Int) 9 = (nk : Int) ∧ nk ≤ K.length ∧ nk = min K.length 9 := ⟨min K.length 9, by omega, by omega, rfl⟩
  have HN9 := hid hnk9
  have hkc' : nk ≤ kcap := by omega
  clear hnk9 hkc
  unfold maxLen at hL1 hL2
  have HS1 := hid hs1
  have HS2 := hid hs2
  have HK := hid hK
  clear hs1 hs2 hK
  go_enter Try.func4, Try.ntmps4
  go_wp2_with (go_at_call 8; refine (speaks_any _).mono ?_; rintro e w1 ⟨rfl, hb⟩)
  refine (new_any 4 _ (by omega) (by omega)).mono ?_
  rintro e w2 ⟨d, rfl, hd, b2⟩
  have B2 : Hid (Keep (fun k => k < w.heap.size) w w2) := Keep.of_bel (hb.tr b2) (fun _ h => h)
  have HD : Hid (Dev (fun k => k < w.heap.size) w2 d (new 4)) := hd.weak (fun k (hk : k < w.heap.size) => by
    show k < w1.heap.size
    have := hb.size
    omega)
  clear hd b2 hb
  go_wp2_with fail
  go_loopw [9] (fun i wr => ∃ (m : Nat) (S : St), m ≤ L1.length ∧ m ≤ 20 ∧ i = .int .i64 m ∧ Hid (Plain m S) ∧ Hid (Dev (fun k => k < w.heap.size) wr d S) ∧ Hid (Keep (fun k => k < w.heap.size) w wr)) (fun i _ => 20 - (intOf i).toNat)
  case atStart => exact ⟨0, _, by omega, by omega, rfl, plain_new, HD, B2⟩
  case round =>
    obtain ⟨m, S, hm, hm20, rfl, HP, H, KK⟩ := hrel
    clear HD B2
    by_cases hlt : m < L1.length ∧ m < 20
    · obtain ⟨hlt, hlt20⟩ := hlt
      obtain ⟨g, off, rfl, hgl, p1, p2, hdl⟩ := act_cells HS1.out hlt KK.out (fun _ h => h)
      have hsz : (M.bs L1[m].data).size = L1[m].data.length := M.bs_size _
      have ce := cut_eq 256 L1[m].data
      have e256 : ((256 : Nat) : Int) = 256 := rfl
      rw [e256] at ce
      have hlm : (m : Int) < (L1.length : Int) := by omega
      generalize L1[m] = A at *
      obtain ⟨nd, hnd, hnd'⟩ : ∃ nd : Nat, min (A.data.length : Int) 256 = (nd : Int) ∧ nd ≤ A.data.length := ⟨min A.data.length 256, by omega, by omega⟩
      rw [hnd, Int.toNat_natCast] at ce
      have hDl : (A.data.take 256).length ≤ 256 := by rw [List.length_take]; omega
      generalize A.data.take 256 = D at *
      have hmask := i64_mask3 A.at'
      have r0 : 0 ≤ A.at' % 4 := by omega
      have r3 : A.at' % 4 ≤ 3 := by omega
      generalize A.at' % 4 = rr at *
      obtain ⟨pw, _, _⟩ := plain_write HP.out (by omega) rr D r0 r3 hDl
      have HP' := hid pw
      have hw := write_any _ d S m rr D wr.drew (H.out.bel (Bel.dr (Below.refl _ _))) HP.out.good (by omega)
      clear pw
      have p1d : wr.drew.cell? ⟨g, off + m * 4 + 1, none⟩ = some (.int .i64 A.at') := p1
      have p2d : wr.drew.cell? ⟨g, off + m * 4 + 2, none⟩ = some (.string (M.bs A.data)) := p2
      go_wp2_with fail
      go_region_held3 (fun w' => w'.cell? ⟨g, off + m * 4 + 1, none⟩ = some (.int .i64 A.at') ∧ w'.cell? ⟨g, off + m * 4 + 2, none⟩ = some (.string (M.bs A.data))) (go_keep)
        (first
          | (go_at_call 13; refine hw.mono ?_; rintro e w8 ⟨rfl, t8, k8⟩; have H8 := hid t8; have K8 := hid (KK.out.dr.tr k8); have p8 := (k8.cell (p := ⟨g, off + m * 4 + 1, none⟩) hgl).trans p1d; have p9 := (k8.cell (p := ⟨g, off + m * 4 + 2, none⟩) hgl).trans p2d; clear t8 k8 hw))
      go_wp2_with fail
      go_roundw
      case rel => exact ⟨m + 1, _, by omega, by omega, by go_num, HP', H8, K8⟩
      case measure => simp [intOf]; omega
    · by_cases hlL : m < L1.length
      · have hlm : (m : Int) < (L1.length : Int) := by omega
        have hlm2 : ¬ ((m : Int) < 20) := by omega
        have hlm1 : decide ((m : Int) < 20) = false := decide_eq_false hlm2
        obtain ⟨ps, pw0⟩ := plain_sync HP.out (by omega)
        have hs := sync_any _ d S m wr H.out HP.out.good (by omega)
        have HP1 := hid ps
        have HW0 := hid pw0
        clear ps pw0 HP
        go_wp2_with (go_at_call 14; refine hs.mono ?_; rintro e w3 ⟨rfl, t3, k3⟩; have H3 := hid t3; have K3 := hid (KK.out.tr k3); clear t3 k3 hs H KK)
        generalize sync S = S1 at *
        generalize syncE S = z1 at *
        have HB : Hid (Dev (fun j => j < w.heap.size ∨ j = w3.heap.size) (w3.alloc (.cells #[.string ⟨#[]⟩, .string ⟨#[]⟩, .string ⟨#[]⟩, .string ⟨#[]⟩] 47)) d S1) := H3.out.box _
        have BB : Hid (Blk (w3.alloc (.cells #[.string ⟨#[]⟩, .string ⟨#[]⟩, .string ⟨#[]⟩, .string ⟨#[]⟩] 47)) w3.heap.size (arr (fun q => .string (M.bs (read S1 q))) (.string ⟨#[]⟩) 0) 47) := Blk.new _ _ _
        have KB : Hid (Keep (fun k => k < w.heap.size) w (w3.alloc (.cells #[.string ⟨#[]⟩, .string ⟨#[]⟩, .string ⟨#[]⟩, .string ⟨#[]⟩] 47))) := K3.out.al (fun _ h => h) _
        have hB1 : Hid (w.heap.size ≤ w3.heap.size) := K3.out.size
        generalize w3.alloc (.cells #[.string ⟨#[]⟩, .string ⟨#[]⟩, .string ⟨#[]⟩, .string ⟨#[]⟩] 47) = w4 at *
        generalize w3.heap.size = B1 at *
        clear H3 K3
        go_loopw [11] (fun i wr => ∃ q : Nat, q ≤ 4 ∧ i = .int .i64 q ∧ Hid (Dev (fun j => j < w.heap.size ∨ j = B1) wr d S1) ∧ Hid (Blk wr B1 (arr (fun q => .string (M.bs (read S1 q))) (.string ⟨#[]⟩) q) 47) ∧ Hid (Keep (fun k => k < w.heap.size) w wr)) (fun i _ => 4 - (intOf i).toNat)
        case atStart => exact ⟨0, by omega, rfl, HB, BB, KB⟩
        case round =>
          clear HB BB KB
          obtain ⟨q, hq, rfl, H, BQ, KK⟩ := hrel
          by_cases hq4 : q < 4
          · have hr1 := read_any _ d S1 (m + 1) q wr H.out HP1.out.good
            have hq' : (q : Int) < 4 := by omega
            go_wp2_with (go_at_call 19; refine hr1.mono ?_; rintro e w5 ⟨rfl, b5⟩; have H5 := hid (H.out.bel b5); have BQ5 := hid (BQ.out.below b5 BQ.out.lt); have K5 := hid (KK.out.tr (Keep.of_bel b5 (fun k (h : k < w.heap.size) => Nat.lt_of_lt_of_le h KK.out.size))); have c5 := (BQ5.out.cell q).trans (arr_get _ _ q q hq4); have f5 := BQ5.out.frozen q; rw [if_neg (Nat.lt_irrefl q)] at c5; clear b5 hr1)
            go_roundw
            case rel =>
              have k5 : Keep (fun j => j ≠ B1) w5 (w5.setCell ⟨B1, q, none⟩ (.string (M.bs (read S1 q)))) := (Keep.refl _ _).set (p := ⟨B1, q, none⟩) (by simp) _
              refine ⟨q + 1, by omega, by go_num, H5.out.away k5 (.inr rfl), ?_, K5.out.tr (k5.weak (fun k (h : k < w.heap.size) e => by have := hB1.out; omega))⟩
              show Blk _ _ _ _
              rw [← arr_set _ _ q hq4]
              exact BQ5.out.set q _
            case measure => simp [intOf]; omega
          · obtain rfl : q = 4 := by omega
            have hc := copy_any _ d S1 (m + 1) wr H.out HP1.out.good
            go_wp2_with (go_at_call 12; refine hc.mono ?_; rintro e w6 ⟨c, rfl, h6, b6⟩; have T6 := hid (Two.new H.out b6 h6); have BQ6 := hid (BQ.out.below b6 BQ.out.lt); have K6 := hid (KK.out.tr (Keep.of_bel b6 (fun k (h : k < w.heap.size) => Nat.lt_of_lt_of_le h KK.out.size))); clear h6 b6 hc)
            have HT : Hid (Two (fun j => (j < w.heap.size ∨ j = B1) ∨ j = w6.heap.size) (w6.alloc (.cells #[.bool false, .bool false, .bool false, .bool false] 49)) d S1 c S1) := T6.out.box _
            have BW : Hid (Blk (w6.alloc (.cells #[.bool false, .bool false, .bool false, .bool false] 49)) w6.heap.size (flags (wrote S1.wait)) 49) := by
              show Blk _ _ _ _
              rw [HW0.out]
              exact Blk.new _ _ _
            have BQ7 : Hid (Blk (w6.alloc (.cells #[.bool false, .bool false, .bool false, .bool false] 49)) B1 _ 47) := BQ6.out.al _
            have K7 : Hid (Keep (fun k => k < w.heap.size) w (w6.alloc (.cells #[.bool false, .bool false, .bool false, .bool false] 49))) := K6.out.al (fun _ h => h) _
            have hB2 : Hid (w.heap.size ≤ w6.heap.size ∧ B1 ≠ w6.heap.size) := ⟨K6.out.size, by have := BQ6.out.lt; omega⟩
            generalize w6.alloc (.cells #[.bool false, .bool false, .bool false, .bool false] 49) = w7 at *
            generalize w6.heap.size = B2 at *
            clear T6 BQ6 K6 H BQ KK
            go_loopw [14] (fun i wr => ∃ (m2 : Nat) (T : St), m2 ≤ L2.length ∧ m2 ≤ 20 ∧ i = .int .i64 m2 ∧ Hid (Plain (m + 1 + m2) T ∧ T.fin = S1.fin) ∧ Hid (Two (fun j => (j < w.heap.size ∨ j = B1) ∨ j = B2) wr d T c T) ∧ Hid (Blk wr B1 (arr (fun q => .string (M.bs (read S1 q))) (.string ⟨#[]⟩) 4) 47) ∧ Hid (Blk wr B2 (flags (wrote T.wait)) 49) ∧ Hid (Keep (fun k => k < w.heap.size) w wr)) (fun i _ => 20 - (intOf i).toNat)
            case atStart => exact ⟨0, S1, by omega, by omega, rfl, ⟨HP1.out, rfl⟩, HT, BQ7, BW, K7⟩
            case round =>
              clear HT BQ7 BW K7
              obtain ⟨m2, T, hm2, hm220, rfl, HP2, H2, BQ, BW, KK⟩ := hrel
              by_cases hlt2 : m2 < L2.length ∧ m2 < 20
              · obtain ⟨hlt2, hlt220⟩ := hlt2
                obtain ⟨g, off, rfl, hgl, p1, p2, hdl⟩ := act_cells HS2.out hlt2 KK.out (fun _ h => h)
                have hsz : (M.bs L2[m2].data).size = L2[m2].data.length := M.bs_size _
                have ce := cut_eq 256 L2[m2].data
                have e256 : ((256 : Nat) : Int) = 256 := rfl
                rw [e256] at ce
                have hlm3 : (m2 : Int) < (L2.length : Int) := by omega
                generalize L2[m2] = A at *
                obtain ⟨nd, hnd, hnd'⟩ : ∃ nd : Nat, min (A.data.length : Int) 256 = (nd : Int) ∧ nd ≤ A.data.length := ⟨min A.data.length 256, by omega, by omega⟩
                rw [hnd, Int.toNat_natCast] at ce
                have hDl : (A.data.take 256).length ≤ 256 := by rw [List.length_take]; omega
                generalize A.data.take 256 = D at *
                have hmask := i64_mask3 A.at'
                obtain ⟨rn, hrn⟩ : ∃ rn : Nat, A.at' % 4 = (rn : Int) := ⟨(A.at' % 4).toNat, by omega⟩
                have hrn4 : rn < 4 := by omega
                rw [hrn] at hmask
                clear hrn
                obtain ⟨pw, pw2, pw3⟩ := plain_write HP2.out.1 (by omega) rn D (by omega) (by omega) hDl
                have HP' := hid pw
                have HPW := hid pw2
                have HPF := hid pw3
                clear pw pw2 pw3
                have hw := (H2.out.bel (Bel.dr (Below.refl _ _))).writeL (m + 1 + m2) rn D HP2.out.1.good (by omega)
                have p1d : wr.drew.cell? ⟨g, off + m2 * 4 + 1, none⟩ = some (.int .i64 A.at') := p1
                have p2d : wr.drew.cell? ⟨g, off + m2 * 4 + 2, none⟩ = some (.string (M.bs A.data)) := p2
                go_wp2_with fail
                go_region_held3 (fun w' => w'.cell? ⟨g, off + m2 * 4 + 1, none⟩ = some (.int .i64 A.at') ∧ w'.cell? ⟨g, off + m2 * 4 + 2, none⟩ = some (.string (M.bs A.data))) (go_keep)
                  (first
                    | (go_at_call 13; refine hw.mono ?_; rintro e w8 ⟨rfl, t8, k8⟩; have T8 := hid t8; have K8 := hid k8; have p3 := (k8.cell (p := ⟨g, off + m2 * 4 + 1, none⟩) (.inl (.inl hgl))).trans p1d; have p4 := (k8.cell (p := ⟨g, off + m2 * 4 + 2, none⟩) (.inl (.inl hgl))).trans p2d; clear t8 k8 hw))
                have hw2 := (T8.out.bel (Bel.dr (Below.refl _ _))).writeR (m + 1 + m2) rn D HP2.out.1.good (by omega)
                have p3d : w8.drew.cell? ⟨g, off + m2 * 4 + 1, none⟩ = some (.int .i64 A.at') := p3
                have p4d : w8.drew.cell? ⟨g, off + m2 * 4 + 2, none⟩ = some (.string (M.bs A.data)) := p4
                go_wp2_with fail
                go_region_held3 (fun w' => w'.cell? ⟨g, off + m2 * 4 + 1, none⟩ = some (.int .i64 A.at') ∧ w'.cell? ⟨g, off + m2 * 4 + 2, none⟩ = some (.string (M.bs A.data))) (go_keep)
                  (first
                    | (go_at_call 13; refine hw2.mono ?_; rintro e w9 ⟨rfl, t9, k9⟩; have T9 := hid t9; have K9 := hid k9; have p5 := (k9.cell (p := ⟨g, off + m2 * 4 + 1, none⟩) (.inl (.inl hgl))).trans p3d; have p6 := (k9.cell (p := ⟨g, off + m2 * 4 + 2, none⟩) (.inl (.inl hgl))).trans p4d; clear t9 k9 hw2))
                have KT : Hid (Keep (fun j => (j < w.heap.size ∨ j = B1) ∨ j = B2) wr w9) := ((Keep.refl _ wr).dr.tr K8.out).dr.tr K9.out
                have BQ9 : Hid (Blk w9 B1 _ 47) := (KT.out.block B1 (.inl (.inr rfl))).trans BQ.out
                have BW9 : Hid (Blk w9 B2 _ 49) := (KT.out.block B2 (.inr rfl)).trans BW.out
                have c9 := (BW9.out.cell rn).trans (flags_get _ rn hrn4)
                have f9 := BW9.out.frozen rn
                have hrn' : (rn : Int) < 4 := by omega
                generalize write T rn D = T' at *
                generalize writeE T rn D = z2 at *
                clear p1 p2 p1d p2d p3 p4 p3d p4d
                go_wp2_with fail
                go_roundw
                case rel =>
                  have k9 : Keep (fun j => j ≠ B2) w9 (w9.setCell ⟨B2, rn, none⟩ (.bool true)) := (Keep.refl _ _).set (p := ⟨B2, rn, none⟩) (by simp) _
                  refine ⟨m2 + 1, T', by omega, by omega, by go_num, ⟨HP'.out, HPF.out.trans HP2.out.2⟩, T9.out.away k9 (.inr rfl), (k9.block B1 hB2.out.2).trans BQ9.out, ?_, (KK.out.tr (KT.out.weak (fun k h => .inl (.inl h)))).tr (k9.weak (fun k (h : k < w.heap.size) e => by have := hB2.out.1; omega))⟩
                  show Blk _ _ _ _
                  rw [HPW.out, ← flags_set _ rn D hrn4]
                  exact BW9.out.set rn _
                case measure => simp [intOf]; omega
              · by_cases hlL2 : m2 < L2.length
                · have hlm3 : ((m2 : Int) < (L2.length : Int)) := by omega
                  have hlm4 : ¬ ((m2 : Int) < 20) := by omega
                  have hlm5 : decide ((m2 : Int) < 20) = false := decide_eq_false hlm4
                  have hPL := HP2.out.1
                  have HT3 : Hid (Two (fun j => ((j < w.heap.size ∨ j = B1) ∨ j = B2) ∨ j = wr.heap.size) (wr.alloc (.cells #[.string ⟨#[]⟩, .string ⟨#[]⟩, .string ⟨#[]⟩, .string ⟨#[]⟩] 47)) d T c T) := H2.out.box _
                  have BN : Hid (Blk (wr.alloc (.cells #[.string ⟨#[]⟩, .string ⟨#[]⟩, .string ⟨#[]⟩, .string ⟨#[]⟩] 47)) wr.heap.size (arr (fun q => Value.string (M.bs (read T q))) (.string ⟨#[]⟩) 0) 47) := Blk.new _ _ _
                  have BQ3 : Hid (Blk (wr.alloc (.cells #[.string ⟨#[]⟩, .string ⟨#[]⟩, .string ⟨#[]⟩, .string ⟨#[]⟩] 47)) B1 (arr (fun q => .string (M.bs (read S1 q))) (.string ⟨#[]⟩) 4) 47) := BQ.out.al _
                  have BW3 : Hid (Blk (wr.alloc (.cells #[.string ⟨#[]⟩, .string ⟨#[]⟩, .string ⟨#[]⟩, .string ⟨#[]⟩] 47)) B2 (flags (wrote T.wait)) 49) := BW.out.al _
                  have KK3 : Hid (Keep (fun k => k < w.heap.size) w (wr.alloc (.cells #[.string ⟨#[]⟩, .string ⟨#[]⟩, .string ⟨#[]⟩, .string ⟨#[]⟩] 47))) := KK.out.al (fun _ h => h) _
                  have hB3 : Hid (w.heap.size ≤ wr.heap.size ∧ B1 ≠ wr.heap.size ∧ B2 ≠ wr.heap.size) := ⟨KK.out.size, by have := BQ.out.lt; omega, by have := BW.out.lt; omega⟩
                  have HPL := hid hPL
                  clear hPL H2 BQ BW KK
                  go_wp2_with fail
                  generalize wr.alloc (.cells #[.string ⟨#[]⟩, .string ⟨#[]⟩, .string ⟨#[]⟩, .string ⟨#[]⟩] 47) = w5 at *
                  generalize wr.heap.size = B3 at *
                  go_loopw [16] (fun i wr => ∃ q : Nat, q ≤ 4 ∧ i = .int .i64 q ∧ Hid (Two (fun j => ((j < w.heap.size ∨ j = B1) ∨ j = B2) ∨ j = B3) wr d T c T) ∧ Hid (Blk wr B3 (arr (fun q => Value.string (M.bs (read T q))) (.string ⟨#[]⟩) q) 47) ∧ Hid (Blk wr B1 (arr (fun q => .string (M.bs (read S1 q))) (.string ⟨#[]⟩) 4) 47) ∧ Hid (Blk wr B2 (flags (wrote T.wait)) 49) ∧ Hid (Keep (fun k => k < w.heap.size) w wr)) (fun i _ => 4 - (intOf i).toNat)
                  case atStart => exact ⟨0, by omega, rfl, HT3, BN, BQ3, BW3, KK3⟩
                  case round =>
                    clear HT3 BN BQ3 BW3 KK3
                    obtain ⟨q, hq, rfl, H, BN, BQ, BW, KK⟩ := hrel
                    by_cases hq4 : q < 4
                    · have hr1 := read_any _ c T (m + 1 + m2) q wr H.out.symm.fst HPL.out.good
                      have hq' : (q : Int) < 4 := by omega
                      go_wp2_with (go_at_call 19; refine hr1.mono ?_; rintro e w5 ⟨rfl, b5⟩; have H5 := hid (H.out.bel b5); have BN5 := hid (BN.out.below b5 BN.out.lt); have BQ5 := hid (BQ.out.below b5 BQ.out.lt); have BW5 := hid (BW.out.below b5 BW.out.lt); have K5 := hid (KK.out.tr (Keep.of_bel b5 (fun k (h : k < w.heap.size) => Nat.lt_of_lt_of_le h KK.out.size))); have c5 := (BN5.out.cell q).trans (arr_get _ _ q q hq4); have f5 := BN5.out.frozen q; rw [if_neg (Nat.lt_irrefl q)] at c5; clear b5 hr1)
                      go_roundw
                      case rel =>
                        have k5 : Keep (fun j => j ≠ B3) w5 (w5.setCell ⟨B3, q, none⟩ (.string (M.bs (read T q)))) := (Keep.refl _ _).set (p := ⟨B3, q, none⟩) (by simp) _
                        refine ⟨q + 1, by omega, by go_num, H5.out.away k5 (.inr rfl), ?_, (k5.block B1 hB3.out.2.1).trans BQ5.out, (k5.block B2 hB3.out.2.2).trans BW5.out, K5.out.tr (k5.weak (fun k (h : k < w.heap.size) e => by have := hB3.out; omega))⟩
                        show Blk _ _ _ _
                        rw [← arr_set _ _ q hq4]
                        exact BN5.out.set q _
                      case measure => simp [intOf]; omega
                    · obtain rfl : q = 4 := by omega
                      have bA : Bel wr (wr.alloc (.cells #[.int .i64 1] 3)) := Bel.al (Below.refl _ _) _
                      have kA : Keep (fun j => ((j < w.heap.size ∨ j = B1) ∨ j = B2) ∨ j = B3) wr (wr.alloc (.cells #[.int .i64 1] 3)) := Keep.of_bel bA H.out.fst.lt
                      have hbl := (H.out.bel bA).blowR (m + 1 + m2) [1] _ HPL.out.good (one_new wr 1) (by simp)
                      obtain ⟨i0, hi, hz0, hz1, hz2⟩ := info_parts info3
                      have hl9 : (K.take 9).length = nk := by rw [List.length_take, HN9.out]; omega
                      have hc9 : Hid (∀ j u, (csN (K.take 9))[j]? = some u → w.cell? (ka.add j) = some u) := by
                        obtain ⟨a', cap', e, h⟩ := HK.out
                        cases e
                        rcases h with rfl | ⟨g, off, e, hr⟩
                        · intro j u hj; simp [csN] at hj
                        · cases e
                          intro j u hj
                          have hj2 : (csN K)[j]? = some u := by
                            have : csN (K.take 9) = (csN K).take 9 := by simp [csN, List.map_take]
                            rw [this, List.getElem?_take] at hj
                            split at hj
                            · exact hj
                            · cases hj
                          rw [add_lit]
                          exact cellsN hr j u hj2
                      go_wp2_with first
                        | (go_at_call_of 15 (Value.pointer (some (⟨c, 0, none⟩ : Addr))); refine hbl.mono ?_; rintro e w8 ⟨rfl, t8, k8⟩; have T8 := hid t8; have K8 := hid (kA.tr k8); clear t8 k8 hbl)
                        | (go_at_call_of 20 (Value.pointer (some (⟨c, 0, none⟩ : Addr))); refine T8.out.onR.mono ?_; rintro e w9 ⟨rfl, t9, k9⟩; have T9 := hid t9; have K9 := hid (K8.out.tr k9); clear t9 k9)
                        | (at_builtin; refine wpList_append_own _ rfl _ _ 29 rfl w9.heap.size 3 i0 _ 1 8 Try.underlying29 hi hz0 hz1 hz2 rfl (by decide) _ _ _ rfl (World.ownsRow_made w9 #[] 0 (Nat.le_refl _) (Nat.zero_le _) (by simp)) ka nk kcap (csN (K.take 9)) rfl ?qc1 ?qc2 ?qc3 ?qc4 ?qc5 ?qc6 ?_)
                      case qc1 => rw [csN_length, hl9]
                      case qc2 =>
                        intro j u hj
                        refine Lib.cell?_alloc_some _ ?_
                        have hcw := hc9.out j u hj
                        exact ((KK.out.tr (K9.out.weak (fun k h => .inl (.inl (.inl h))))).cell (p := ka.add j) (by have := block_lt_of_cell hcw; exact this)).trans hcw
                      case qc3 => exact csN_one _
                      case qc4 => have := HN9.out; unfold maxLen; omega
                      case qc5 => have := HN9.out; omega
                      case qc6 => simp
                      intro v' w10 hown hgrow hnil
                      obtain ⟨a4, cap4, rfl⟩ : ∃ a' cap', v' = .slice a' nk cap' := by
                        rcases hown.2 with ⟨h1, h2⟩ | ⟨g, cap, cur, hv, _⟩
                        · exact ⟨none, 0, by rw [h1, h2]⟩
                        · exact ⟨_, _, hv⟩
                      have B10 : Bel w9 w10 := ((Below.refl _ w9).alloc (Nat.le_refl _) _).grown hgrow (by simp) (by intro k hk; simp [Value.ownBlock] at hk; omega)
                      have R10 : w10.ownsRow 0 3 1 (.slice a4 nk cap4) (K.take 9).length (csN (K.take 9)) := by rw [hl9]; exact (row_base hown).1
                      have HK9 : Hid (ReadsN w10 (.slice a4 nk cap4) (K.take 9)) := readsN_of R10
                      have T10 := hid (T9.out.bel B10)
                      have K10 := hid (K9.out.tr (Keep.of_bel B10 T9.out.fst.lt))
                      clear hown hgrow hnil R10 B10 T9 K9 T8 K8 hi hz0 hz1 hz2 i0
                      have hK9 : (K.take 9).length ≤ 1000 := by rw [List.length_take]; omega
                      have hbl2 := T10.out.blowL (m + 1 + m2) (K.take 9) _ HPL.out.good HK9.out hK9
                      go_wp2_with first
                        | (go_at_call_of 15 (Value.pointer (some (⟨d, 0, none⟩ : Addr))); refine hbl2.mono ?_; rintro e w11 ⟨rfl, t11, k11⟩; have T11 := hid t11; have K11 := hid (K10.out.tr k11); clear t11 k11 hbl2)
                        | (go_at_call_of 20 (Value.pointer (some (⟨d, 0, none⟩ : Addr))); refine T11.out.onL.mono ?_; rintro e w12 ⟨rfl, t12, k12⟩; have T12 := hid t12; have K12 := hid (K11.out.tr k12); clear t12 k12)
                      have BN2 : Hid (Blk w12 B3 (arr (fun q => Value.string (M.bs (read T q))) (.string ⟨#[]⟩) 4) 47) := (K12.out.block B3 (.inr rfl)).trans BN.out
                      have BQ2 : Hid (Blk w12 B1 (arr (fun q => .string (M.bs (read S1 q))) (.string ⟨#[]⟩) 4) 47) := (K12.out.block B1 (.inl (.inl (.inr rfl)))).trans BQ.out
                      have BW2 : Hid (Blk w12 B2 (flags (wrote T.wait)) 49) := (K12.out.block B2 (.inl (.inr rfl))).trans BW.out
                      have KK2 : Hid (Keep (fun k => k < w.heap.size) w w12) := KK.out.tr (K12.out.weak (fun k h => .inl (.inl (.inl h))))
                      clear T11 K11 K12 T10 K10 BN BQ BW KK H kA bA hc9 HK9
                      generalize hKe : K.take 9 = K9 at *
                      go_loopw [17] (fun i wr => ∃ q : Nat, q ≤ 4 ∧ i = .int .i64 q ∧ Hid (Two (fun j => ((j < w.heap.size ∨ j = B1) ∨ j = B2) ∨ j = B3) wr d (on (blow T K9)) c (on (blow T [1]))) ∧ Hid (Blk wr B3 (arr (fun q => Value.string (M.bs (read T q))) (.string ⟨#[]⟩) 4) 47) ∧ Hid (Blk wr B1 (arr (fun q => .string (M.bs (read S1 q))) (.string ⟨#[]⟩) 4) 47) ∧ Hid (Blk wr B2 (flags (wrote T.wait)) 49) ∧ Hid (Keep (fun k => k < w.heap.size) w wr)) (fun i _ => 4 - (intOf i).toNat)
                      case atStart => exact ⟨0, by omega, rfl, T12, BN2, BQ2, BW2, KK2⟩
                      case round =>
                        clear T12 BN2 BQ2 BW2 KK2
                        obtain ⟨q, hq, rfl, H, BN, BQ, BW, KK⟩ := hrel
                        by_cases hq4 : q < 4
                        · have hq' : (q : Int) < 4 := by omega
                          have hr1 := read_any _ d (on (blow T K9)) (m + 1 + m2) q wr H.out.fst (HPL.out.good.blow _).on
                          have ek := plain_kept HPL.out (q : Int) (by omega) (by omega)
                          generalize check (on (blow T K9)) (q : Int) = y1 at *
                          by_cases hwr : wrote T.wait (q : Int) = true
                          · go_wp2_with (go_at_call_of 19 (Value.pointer (some (⟨d, 0, none⟩ : Addr))); refine hr1.mono ?_; rintro e w13 ⟨rfl, b13⟩; have H13 := hid (H.out.bel b13); have BN13 := hid (BN.out.below b13 BN.out.lt); have BQ13 := hid (BQ.out.below b13 BQ.out.lt); have BW13 := hid (BW.out.below b13 BW.out.lt); have K13 := hid (KK.out.tr (Keep.of_bel b13 (fun k (h : k < w.heap.size) => Nat.lt_of_lt_of_le h KK.out.size))); clear b13 hr1)
                            have hr2 := read_any _ c (on (blow T [1])) (m + 1 + m2) q w13 H13.out.symm.fst (HPL.out.good.blow _).on
                            rw [ek] at hr2
                            generalize check (on (blow T [1])) (q : Int) = y2 at *
                            go_wp2_with (go_at_call_of 19 (Value.pointer (some (⟨c, 0, none⟩ : Addr))); refine hr2.mono ?_; rintro e w14 ⟨rfl, b14⟩; have H14 := hid (H13.out.bel b14); have BN14 := hid (BN13.out.below b14 BN13.out.lt); have BQ14 := hid (BQ13.out.below b14 BQ13.out.lt); have BW14 := hid (BW13.out.below b14 BW13.out.lt); have K14 := hid (K13.out.tr (Keep.of_bel b14 (fun k (h : k < w.heap.size) => Nat.lt_of_lt_of_le h K13.out.size))); have c1 := (BN14.out.cell q).trans (arr_get _ _ 4 q hq4); have c2 := (BQ14.out.cell q).trans (arr_get _ _ 4 q hq4); have c3 := (BW14.out.cell q).trans (flags_get _ q hq4); rw [if_pos hq4] at c1 c2; rw [hwr] at c3; clear b14 hr2)
                            go_roundw
                            case rel => exact ⟨q + 1, by omega, by go_num, H14, BN14, BQ14, BW14, K14⟩
                            case measure => simp [intOf]; omega
                          · have hwf : wrote T.wait (q : Int) = false := by simpa using hwr
                            have el := plain_lasts HP1.out HPL.out HW0.out HP2.out.2 K9 (q : Int) (by omega) (by omega) (fun x hx e => by
                              have : wrote T.wait (q : Int) = true := List.any_eq_true.2 ⟨x, hx, by simp [e]⟩
                              rw [hwf] at this
                              cases this)
                            rw [el] at hr1
                            clear el hwr
                            go_wp2_with (go_at_call_of 19 (Value.pointer (some (⟨d, 0, none⟩ : Addr))); refine hr1.mono ?_; rintro e w13 ⟨rfl, b13⟩; have H13 := hid (H.out.bel b13); have BN13 := hid (BN.out.below b13 BN.out.lt); have BQ13 := hid (BQ.out.below b13 BQ.out.lt); have BW13 := hid (BW.out.below b13 BW.out.lt); have K13 := hid (KK.out.tr (Keep.of_bel b13 (fun k (h : k < w.heap.size) => Nat.lt_of_lt_of_le h KK.out.size))); clear b13 hr1)
                            have hr2 := read_any _ c (on (blow T [1])) (m + 1 + m2) q w13 H13.out.symm.fst (HPL.out.good.blow _).on
                            rw [ek] at hr2
                            generalize check (on (blow T [1])) (q : Int) = y2 at *
                            go_wp2_with (go_at_call_of 19 (Value.pointer (some (⟨c, 0, none⟩ : Addr))); refine hr2.mono ?_; rintro e w14 ⟨rfl, b14⟩; have H14 := hid (H13.out.bel b14); have BN14 := hid (BN13.out.below b14 BN13.out.lt); have BQ14 := hid (BQ13.out.below b14 BQ13.out.lt); have BW14 := hid (BW13.out.below b14 BW13.out.lt); have K14 := hid (K13.out.tr (Keep.of_bel b14 (fun k (h : k < w.heap.size) => Nat.lt_of_lt_of_le h K13.out.size))); have c1 := (BN14.out.cell q).trans (arr_get _ _ 4 q hq4); have c2 := (BQ14.out.cell q).trans (arr_get _ _ 4 q hq4); have c3 := (BW14.out.cell q).trans (flags_get _ q hq4); rw [if_pos hq4] at c1 c2; rw [hwf] at c3; clear b14 hr2)
                            go_roundw
                            case rel => exact ⟨q + 1, by omega, by go_num, H14, BN14, BQ14, BW14, K14⟩
                            case measure => simp [intOf]; omega
                        · obtain rfl : q = 4 := by omega
                          go_wp2_with fail
                          go_ret
                          exact ⟨rfl, KK.out.below⟩
                · have hlm3 : ¬ ((m2 : Int) < (L2.length : Int)) := by omega
                  have hlm4 : decide ((m2 : Int) < (L2.length : Int)) = false := decide_eq_false hlm3
                  have hPL := HP2.out.1
                  have HT3 : Hid (Two (fun j => ((j < w.heap.size ∨ j = B1) ∨ j = B2) ∨ j = wr.heap.size) (wr.alloc (.cells #[.string ⟨#[]⟩, .string ⟨#[]⟩, .string ⟨#[]⟩, .string ⟨#[]⟩] 47)) d T c T) := H2.out.box _
                  have BN : Hid (Blk (wr.alloc (.cells #[.string ⟨#[]⟩, .string ⟨#[]⟩, .string ⟨#[]⟩, .string ⟨#[]⟩] 47)) wr.heap.size (arr (fun q => Value.string (M.bs (read T q))) (.string ⟨#[]⟩) 0) 47) := Blk.new _ _ _
                  have BQ3 : Hid (Blk (wr.alloc (.cells #[.string ⟨#[]⟩, .string ⟨#[]⟩, .string ⟨#[]⟩, .string ⟨#[]⟩] 47)) B1 (arr (fun q => .string (M.bs (read S1 q))) (.string ⟨#[]⟩) 4) 47) := BQ.out.al _
                  have BW3 : Hid (Blk (wr.alloc (.cells #[.string ⟨#[]⟩, .string ⟨#[]⟩, .string ⟨#[]⟩, .string ⟨#[]⟩] 47)) B2 (flags (wrote T.wait)) 49) := BW.out.al _
                  have KK3 : Hid (Keep (fun k => k < w.heap.size) w (wr.alloc (.cells #[.string ⟨#[]⟩, .string ⟨#[]⟩, .string ⟨#[]⟩, .string ⟨#[]⟩] 47))) := KK.out.al (fun _ h => h) _
                  have hB3 : Hid (w.heap.size ≤ wr.heap.size ∧ B1 ≠ wr.heap.size ∧ B2 ≠ wr.heap.size) := ⟨KK.out.size, by have := BQ.out.lt; omega, by have := BW.out.lt; omega⟩
                  have HPL := hid hPL
                  clear hPL H2 BQ BW KK
                  go_wp2_with fail
                  generalize wr.alloc (.cells #[.string ⟨#[]⟩, .string ⟨#[]⟩, .string ⟨#[]⟩, .string ⟨#[]⟩] 47) = w5 at *
                  generalize wr.heap.size = B3 at *
                  go_loopw [16] (fun i wr => ∃ q : Nat, q ≤ 4 ∧ i = .int .i64 q ∧ Hid (Two (fun j => ((j < w.heap.size ∨ j = B1) ∨ j = B2) ∨ j = B3) wr d T c T) ∧ Hid (Blk wr B3 (arr (fun q => Value.string (M.bs (read T q))) (.string ⟨#[]⟩) q) 47) ∧ Hid (Blk wr B1 (arr (fun q => .string (M.bs (read S1 q))) (.string ⟨#[]⟩) 4) 47) ∧ Hid (Blk wr B2 (flags (wrote T.wait)) 49) ∧ Hid (Keep (fun k => k < w.heap.size) w wr)) (fun i _ => 4 - (intOf i).toNat)
                  case atStart => exact ⟨0, by omega, rfl, HT3, BN, BQ3, BW3, KK3⟩
                  case round =>
                    clear HT3 BN BQ3 BW3 KK3
                    obtain ⟨q, hq, rfl, H, BN, BQ, BW, KK⟩ := hrel
                    by_cases hq4 : q < 4
                    · have hr1 := read_any _ c T (m + 1 + m2) q wr H.out.symm.fst HPL.out.good
                      have hq' : (q : Int) < 4 := by omega
                      go_wp2_with (go_at_call 19; refine hr1.mono ?_; rintro e w5 ⟨rfl, b5⟩; have H5 := hid (H.out.bel b5); have BN5 := hid (BN.out.below b5 BN.out.lt); have BQ5 := hid (BQ.out.below b5 BQ.out.lt); have BW5 := hid (BW.out.below b5 BW.out.lt); have K5 := hid (KK.out.tr (Keep.of_bel b5 (fun k (h : k < w.heap.size) => Nat.lt_of_lt_of_le h KK.out.size))); have c5 := (BN5.out.cell q).trans (arr_get _ _ q q hq4); have f5 := BN5.out.frozen q; rw [if_neg (Nat.lt_irrefl q)] at c5; clear b5 hr1)
                      go_roundw
                      case rel =>
                        have k5 : Keep (fun j => j ≠ B3) w5 (w5.setCell ⟨B3, q, none⟩ (.string (M.bs (read T q)))) := (Keep.refl _ _).set (p := ⟨B3, q, none⟩) (by simp) _
                        refine ⟨q + 1, by omega, by go_num, H5.out.away k5 (.inr rfl), ?_, (k5.block B1 hB3.out.2.1).trans BQ5.out, (k5.block B2 hB3.out.2.2).trans BW5.out, K5.out.tr (k5.weak (fun k (h : k < w.heap.size) e => by have := hB3.out; omega))⟩
                        show Blk _ _ _ _
                        rw [← arr_set _ _ q hq4]
                        exact BN5.out.set q _
                      case measure => simp [intOf]; omega
                    · obtain rfl : q = 4 := by omega
                      have bA : Bel wr (wr.alloc (.cells #[.int .i64 1] 3)) := Bel.al (Below.refl _ _) _
                      have kA : Keep (fun j => ((j < w.heap.size ∨ j = B1) ∨ j = B2) ∨ j = B3) wr (wr.alloc (.cells #[.int .i64 1] 3)) := Keep.of_bel bA H.out.fst.lt
                      have hbl := (H.out.bel bA).blowR (m + 1 + m2) [1] _ HPL.out.good (one_new wr 1) (by simp)
                      obtain ⟨i0, hi, hz0, hz1, hz2⟩ := info_parts info3
                      have hl9 : (K.take 9).length = nk := by rw [List.length_take, HN9.out]; omega
                      have hc9 : Hid (∀ j u, (csN (K.take 9))[j]? = some u → w.cell? (ka.add j) = some u) := by
                        obtain ⟨a', cap', e, h⟩ := HK.out
                        cases e
                        rcases h with rfl | ⟨g, off, e, hr⟩
                        · intro j u hj; simp [csN] at hj
                        · cases e
                          intro j u hj
                          have hj2 : (csN K)[j]? = some u := by
                            have : csN (K.take 9) = (csN K).take 9 := by simp [csN, List.map_take]
                            rw [this, List.getElem?_take] at hj
                            split at hj
                            · exact hj
                            · cases hj
                          rw [add_lit]
                          exact cellsN hr j u hj2
                      go_wp2_with first
                        | (go_at_call_of 15 (Value.pointer (some (⟨c, 0, none⟩ : Addr))); refine hbl.mono ?_; rintro e w8 ⟨rfl, t8, k8⟩; have T8 := hid t8; have K8 := hid (kA.tr k8); clear t8 k8 hbl)
                        | (go_at_call_of 20 (Value.pointer (some (⟨c, 0, none⟩ : Addr))); refine T8.out.onR.mono ?_; rintro e w9 ⟨rfl, t9, k9⟩; have T9 := hid t9; have K9 := hid (K8.out.tr k9); clear t9 k9)
                        | (at_builtin; refine wpList_append_own _ rfl _ _ 29 rfl w9.heap.size 3 i0 _ 1 8 Try.underlying29 hi hz0 hz1 hz2 rfl (by decide) _ _ _ rfl (World.ownsRow_made w9 #[] 0 (Nat.le_refl _) (Nat.zero_le _) (by simp)) ka nk kcap (csN (K.take 9)) rfl ?qc1 ?qc2 ?qc3 ?qc4 ?qc5 ?qc6 ?_)
                      case qc1 => rw [csN_length, hl9]
                      case qc2 =>
                        intro j u hj
                        refine Lib.cell?_alloc_some _ ?_
                        have hcw := hc9.out j u hj
                        exact ((KK.out.tr (K9.out.weak (fun k h => .inl (.inl (.inl h))))).cell (p := ka.add j) (by have := block_lt_of_cell hcw; exact this)).trans hcw
                      case qc3 => exact csN_one _
                      case qc4 => have := HN9.out; unfold maxLen; omega
                      case qc5 => have := HN9.out; omega
                      case qc6 => simp
                      intro v' w10 hown hgrow hnil
                      obtain ⟨a4, cap4, rfl⟩ : ∃ a' cap', v' = .slice a' nk cap' := by
                        rcases hown.2 with ⟨h1, h2⟩ | ⟨g, cap, cur, hv, _⟩
                        · exact ⟨none, 0, by rw [h1, h2]⟩
                        · exact ⟨_, _, hv⟩
                      have B10 : Bel w9 w10 := ((Below.refl _ w9).alloc (Nat.le_refl _) _).grown hgrow (by simp) (by intro k hk; simp [Value.ownBlock] at hk; omega)
                      have R10 : w10.ownsRow 0 3 1 (.slice a4 nk cap4) (K.take 9).length (csN (K.take 9)) := by rw [hl9]; exact (row_base hown).1
                      have HK9 : Hid (ReadsN w10 (.slice a4 nk cap4) (K.take 9)) := readsN_of R10
                      have T10 := hid (T9.out.bel B10)
                      have K10 := hid (K9.out.tr (Keep.of_bel B10 T9.out.fst.lt))
                      clear hown hgrow hnil R10 B10 T9 K9 T8 K8 hi hz0 hz1 hz2 i0
                      have hK9 : (K.take 9).length ≤ 1000 := by rw [List.length_take]; omega
                      have hbl2 := T10.out.blowL (m + 1 + m2) (K.take 9) _ HPL.out.good HK9.out hK9
                      go_wp2_with first
                        | (go_at_call_of 15 (Value.pointer (some (⟨d, 0, none⟩ : Addr))); refine hbl2.mono ?_; rintro e w11 ⟨rfl, t11, k11⟩; have T11 := hid t11; have K11 := hid (K10.out.tr k11); clear t11 k11 hbl2)
                        | (go_at_call_of 20 (Value.pointer (some (⟨d, 0, none⟩ : Addr))); refine T11.out.onL.mono ?_; rintro e w12 ⟨rfl, t12, k12⟩; have T12 := hid t12; have K12 := hid (K11.out.tr k12); clear t12 k12)
                      have BN2 : Hid (Blk w12 B3 (arr (fun q => Value.string (M.bs (read T q))) (.string ⟨#[]⟩) 4) 47) := (K12.out.block B3 (.inr rfl)).trans BN.out
                      have BQ2 : Hid (Blk w12 B1 (arr (fun q => .string (M.bs (read S1 q))) (.string ⟨#[]⟩) 4) 47) := (K12.out.block B1 (.inl (.inl (.inr rfl)))).trans BQ.out
                      have BW2 : Hid (Blk w12 B2 (flags (wrote T.wait)) 49) := (K12.out.block B2 (.inl (.inr rfl))).trans BW.out
                      have KK2 : Hid (Keep (fun k => k < w.heap.size) w w12) := KK.out.tr (K12.out.weak (fun k h => .inl (.inl (.inl h))))
                      clear T11 K11 K12 T10 K10 BN BQ BW KK H kA bA hc9 HK9
                      generalize hKe : K.take 9 = K9 at *
                      go_loopw [17] (fun i wr => ∃ q : Nat, q ≤ 4 ∧ i = .int .i64 q ∧ Hid (Two (fun j => ((j < w.heap.size ∨ j = B1) ∨ j = B2) ∨ j = B3) wr d (on (blow T K9)) c (on (blow T [1]))) ∧ Hid (Blk wr B3 (arr (fun q => Value.string (M.bs (read T q))) (.string ⟨#[]⟩) 4) 47) ∧ Hid (Blk wr B1 (arr (fun q => .string (M.bs (read S1 q))) (.string ⟨#[]⟩) 4) 47) ∧ Hid (Blk wr B2 (flags (wrote T.wait)) 49) ∧ Hid (Keep (fun k => k < w.heap.size) w wr)) (fun i _ => 4 - (intOf i).toNat)
                      case atStart => exact ⟨0, by omega, rfl, T12, BN2, BQ2, BW2, KK2⟩
                      case round =>
                        clear T12 BN2 BQ2 BW2 KK2
                        obtain ⟨q, hq, rfl, H, BN, BQ, BW, KK⟩ := hrel
                        by_cases hq4 : q < 4
                        · have hq' : (q : Int) < 4 := by omega
                          have hr1 := read_any _ d (on (blow T K9)) (m + 1 + m2) q wr H.out.fst (HPL.out.good.blow _).on
                          have ek := plain_kept HPL.out (q : Int) (by omega) (by omega)
                          generalize check (on (blow T K9)) (q : Int) = y1 at *
                          by_cases hwr : wrote T.wait (q : Int) = true
                          · go_wp2_with (go_at_call_of 19 (Value.pointer (some (⟨d, 0, none⟩ : Addr))); refine hr1.mono ?_; rintro e w13 ⟨rfl, b13⟩; have H13 := hid (H.out.bel b13); have BN13 := hid (BN.out.below b13 BN.out.lt); have BQ13 := hid (BQ.out.below b13 BQ.out.lt); have BW13 := hid (BW.out.below b13 BW.out.lt); have K13 := hid (KK.out.tr (Keep.of_bel b13 (fun k (h : k < w.heap.size) => Nat.lt_of_lt_of_le h KK.out.size))); clear b13 hr1)
                            have hr2 := read_any _ c (on (blow T [1])) (m + 1 + m2) q w13 H13.out.symm.fst (HPL.out.good.blow _).on
                            rw [ek] at hr2
                            generalize check (on (blow T [1])) (q : Int) = y2 at *
                            go_wp2_with (go_at_call_of 19 (Value.pointer (some (⟨c, 0, none⟩ : Addr))); refine hr2.mono ?_; rintro e w14 ⟨rfl, b14⟩; have H14 := hid (H13.out.bel b14); have BN14 := hid (BN13.out.below b14 BN13.out.lt); have BQ14 := hid (BQ13.out.below b14 BQ13.out.lt); have BW14 := hid (BW13.out.below b14 BW13.out.lt); have K14 := hid (K13.out.tr (Keep.of_bel b14 (fun k (h : k < w.heap.size) => Nat.lt_of_lt_of_le h K13.out.size))); have c1 := (BN14.out.cell q).trans (arr_get _ _ 4 q hq4); have c2 := (BQ14.out.cell q).trans (arr_get _ _ 4 q hq4); have c3 := (BW14.out.cell q).trans (flags_get _ q hq4); rw [if_pos hq4] at c1 c2; rw [hwr] at c3; clear b14 hr2)
                            go_roundw
                            case rel => exact ⟨q + 1, by omega, by go_num, H14, BN14, BQ14, BW14, K14⟩
                            case measure => simp [intOf]; omega
                          · have hwf : wrote T.wait (q : Int) = false := by simpa using hwr
                            have el := plain_lasts HP1.out HPL.out HW0.out HP2.out.2 K9 (q : Int) (by omega) (by omega) (fun x hx e => by
                              have : wrote T.wait (q : Int) = true := List.any_eq_true.2 ⟨x, hx, by simp [e]⟩
                              rw [hwf] at this
                              cases this)
                            rw [el] at hr1
                            clear el hwr
                            go_wp2_with (go_at_call_of 19 (Value.pointer (some (⟨d, 0, none⟩ : Addr))); refine hr1.mono ?_; rintro e w13 ⟨rfl, b13⟩; have H13 := hid (H.out.bel b13); have BN13 := hid (BN.out.below b13 BN.out.lt); have BQ13 := hid (BQ.out.below b13 BQ.out.lt); have BW13 := hid (BW.out.below b13 BW.out.lt); have K13 := hid (KK.out.tr (Keep.of_bel b13 (fun k (h : k < w.heap.size) => Nat.lt_of_lt_of_le h KK.out.size))); clear b13 hr1)
                            have hr2 := read_any _ c (on (blow T [1])) (m + 1 + m2) q w13 H13.out.symm.fst (HPL.out.good.blow _).on
                            rw [ek] at hr2
                            generalize check (on (blow T [1])) (q : Int) = y2 at *
                            go_wp2_with (go_at_call_of 19 (Value.pointer (some (⟨c, 0, none⟩ : Addr))); refine hr2.mono ?_; rintro e w14 ⟨rfl, b14⟩; have H14 := hid (H13.out.bel b14); have BN14 := hid (BN13.out.below b14 BN13.out.lt); have BQ14 := hid (BQ13.out.below b14 BQ13.out.lt); have BW14 := hid (BW13.out.below b14 BW13.out.lt); have K14 := hid (K13.out.tr (Keep.of_bel b14 (fun k (h : k < w.heap.size) => Nat.lt_of_lt_of_le h K13.out.size))); have c1 := (BN14.out.cell q).trans (arr_get _ _ 4 q hq4); have c2 := (BQ14.out.cell q).trans (arr_get _ _ 4 q hq4); have c3 := (BW14.out.cell q).trans (flags_get _ q hq4); rw [if_pos hq4] at c1 c2; rw [hwf] at c3; clear b14 hr2)
                            go_roundw
                            case rel => exact ⟨q + 1, by omega, by go_num, H14, BN14, BQ14, BW14, K14⟩
                            case measure => simp [intOf]; omega
                        · obtain rfl : q = 4 := by omega
                          go_wp2_with fail
                          go_ret
                          exact ⟨rfl, KK.out.below⟩
      · have hlm : ¬ ((m : Int) < (L1.length : Int)) := by omega
        have hlm2 : decide ((m : Int) < (L1.length : Int)) = false := decide_eq_false hlm
        obtain ⟨ps, pw0⟩ := plain_sync HP.out (by omega)
        have hs := sync_any _ d S m wr H.out HP.out.good (by omega)
        have HP1 := hid ps
        have HW0 := hid pw0
        clear ps pw0 HP
        go_wp2_with (go_at_call 14; refine hs.mono ?_; rintro e w3 ⟨rfl, t3, k3⟩; have H3 := hid t3; have K3 := hid (KK.out.tr k3); clear t3 k3 hs H KK)
        generalize sync S = S1 at *
        generalize syncE S = z1 at *
        have HB : Hid (Dev (fun j => j < w.heap.size ∨ j = w3.heap.size) (w3.alloc (.cells #[.string ⟨#[]⟩, .string ⟨#[]⟩, .string ⟨#[]⟩, .string ⟨#[]⟩] 47)) d S1) := H3.out.box _
        have BB : Hid (Blk (w3.alloc (.cells #[.string ⟨#[]⟩, .string ⟨#[]⟩, .string ⟨#[]⟩, .string ⟨#[]⟩] 47)) w3.heap.size (arr (fun q => .string (M.bs (read S1 q))) (.string ⟨#[]⟩) 0) 47) := Blk.new _ _ _
        have KB : Hid (Keep (fun k => k < w.heap.size) w (w3.alloc (.cells #[.string ⟨#[]⟩, .string ⟨#[]⟩, .string ⟨#[]⟩, .string ⟨#[]⟩] 47))) := K3.out.al (fun _ h => h) _
        have hB1 : Hid (w.heap.size ≤ w3.heap.size) := K3.out.size
        generalize w3.alloc (.cells #[.string ⟨#[]⟩, .string ⟨#[]⟩, .string ⟨#[]⟩, .string ⟨#[]⟩] 47) = w4 at *
        generalize w3.heap.size = B1 at *
        clear H3 K3
        go_loopw [11] (fun i wr => ∃ q : Nat, q ≤ 4 ∧ i = .int .i64 q ∧ Hid (Dev (fun j => j < w.heap.size ∨ j = B1) wr d S1) ∧ Hid (Blk wr B1 (arr (fun q => .string (M.bs (read S1 q))) (.string ⟨#[]⟩) q) 47) ∧ Hid (Keep (fun k => k < w.heap.size) w wr)) (fun i _ => 4 - (intOf i).toNat)
        case atStart => exact ⟨0, by omega, rfl, HB, BB, KB⟩
        case round =>
          clear HB BB KB
          obtain ⟨q, hq, rfl, H, BQ, KK⟩ := hrel
          by_cases hq4 : q < 4
          · have hr1 := read_any _ d S1 (m + 1) q wr H.out HP1.out.good
            have hq' : (q : Int) < 4 := by omega
            go_wp2_with (go_at_call 19; refine hr1.mono ?_; rintro e w5 ⟨rfl, b5⟩; have H5 := hid (H.out.bel b5); have BQ5 := hid (BQ.out.below b5 BQ.out.lt); have K5 := hid (KK.out.tr (Keep.of_bel b5 (fun k (h : k < w.heap.size) => Nat.lt_of_lt_of_le h KK.out.size))); have c5 := (BQ5.out.cell q).trans (arr_get _ _ q q hq4); have f5 := BQ5.out.frozen q; rw [if_neg (Nat.lt_irrefl q)] at c5; clear b5 hr1)
            go_roundw
            case rel =>
              have k5 : Keep (fun j => j ≠ B1) w5 (w5.setCell ⟨B1, q, none⟩ (.string (M.bs (read S1 q)))) := (Keep.refl _ _).set (p := ⟨B1, q, none⟩) (by simp) _
              refine ⟨q + 1, by omega, by go_num, H5.out.away k5 (.inr rfl), ?_, K5.out.tr (k5.weak (fun k (h : k < w.heap.size) e => by have := hB1.out; omega))⟩
              show Blk _ _ _ _
              rw [← arr_set _ _ q hq4]
              exact BQ5.out.set q _
            case measure => simp [intOf]; omega
          · obtain rfl : q = 4 := by omega
            have hc := copy_any _ d S1 (m + 1) wr H.out HP1.out.good
            go_wp2_with (go_at_call 12; refine hc.mono ?_; rintro e w6 ⟨c, rfl, h6, b6⟩; have T6 := hid (Two.new H.out b6 h6); have BQ6 := hid (BQ.out.below b6 BQ.out.lt); have K6 := hid (KK.out.tr (Keep.of_bel b6 (fun k (h : k < w.heap.size) => Nat.lt_of_lt_of_le h KK.out.size))); clear h6 b6 hc)
            have HT : Hid (Two (fun j => (j < w.heap.size ∨ j = B1) ∨ j = w6.heap.size) (w6.alloc (.cells #[.bool false, .bool false, .bool false, .bool false] 49)) d S1 c S1) := T6.out.box _
            have BW : Hid (Blk (w6.alloc (.cells #[.bool false, .bool false, .bool false, .bool false] 49)) w6.heap.size (flags (wrote S1.wait)) 49) := by
              show Blk _ _ _ _
              rw [HW0.out]
              exact Blk.new _ _ _
            have BQ7 : Hid (Blk (w6.alloc (.cells #[.bool false, .bool false, .bool false, .bool false] 49)) B1 _ 47) := BQ6.out.al _
            have K7 : Hid (Keep (fun k => k < w.heap.size) w (w6.alloc (.cells #[.bool false, .bool false, .bool false, .bool false] 49))) := K6.out.al (fun _ h => h) _
            have hB2 : Hid (w.heap.size ≤ w6.heap.size ∧ B1 ≠ w6.heap.size) := ⟨K6.out.size, by have := BQ6.out.lt; omega⟩
            generalize w6.alloc (.cells #[.bool false, .bool false, .bool false, .bool false] 49) = w7 at *
            generalize w6.heap.size = B2 at *
            clear T6 BQ6 K6 H BQ KK
            go_loopw [14] (fun i wr => ∃ (m2 : Nat) (T : St), m2 ≤ L2.length ∧ m2 ≤ 20 ∧ i = .int .i64 m2 ∧ Hid (Plain (m + 1 + m2) T ∧ T.fin = S1.fin) ∧ Hid (Two (fun j => (j < w.heap.size ∨ j = B1) ∨ j = B2) wr d T c T) ∧ Hid (Blk wr B1 (arr (fun q => .string (M.bs (read S1 q))) (.string ⟨#[]⟩) 4) 47) ∧ Hid (Blk wr B2 (flags (wrote T.wait)) 49) ∧ Hid (Keep (fun k => k < w.heap.size) w wr)) (fun i _ => 20 - (intOf i).toNat)
            case atStart => exact ⟨0, S1, by omega, by omega, rfl, ⟨HP1.out, rfl⟩, HT, BQ7, BW, K7⟩
            case round =>
              clear HT BQ7 BW K7
              obtain ⟨m2, T, hm2, hm220, rfl, HP2, H2, BQ, BW, KK⟩ := hrel
              by_cases hlt2 : m2 < L2.length ∧ m2 < 20
              · obtain ⟨hlt2, hlt220⟩ := hlt2
                obtain ⟨g, off, rfl, hgl, p1, p2, hdl⟩ := act_cells HS2.out hlt2 KK.out (fun _ h => h)
                have hsz : (M.bs L2[m2].data).size = L2[m2].data.length := M.bs_size _
                have ce := cut_eq 256 L2[m2].data
                have e256 : ((256 : Nat) : Int) = 256 := rfl
                rw [e256] at ce
                have hlm3 : (m2 : Int) < (L2.length : Int) := by omega
                generalize L2[m2] = A at *
                obtain ⟨nd, hnd, hnd'⟩ : ∃ nd : Nat, min (A.data.length : Int) 256 = (nd : Int) ∧ nd ≤ A.data.length := ⟨min A.data.length 256, by omega, by omega⟩
                rw [hnd, Int.toNat_natCast] at ce
                have hDl : (A.data.take 256).length ≤ 256 := by rw [List.length_take]; omega
                generalize A.data.take 256 = D at *
                have hmask := i64_mask3 A.at'
                obtain ⟨rn, hrn⟩ : ∃ rn : Nat, A.at' % 4 = (rn : Int) := ⟨(A.at' % 4).toNat, by omega⟩
                have hrn4 : rn < 4 := by omega
                rw [hrn] at hmask
                clear hrn
                obtain ⟨pw, pw2, pw3⟩ := plain_write HP2.out.1 (by omega) rn D (by omega) (by omega) hDl
                have HP' := hid pw
                have HPW := hid pw2
                have HPF := hid pw3
                clear pw pw2 pw3
                have hw := (H2.out.bel (Bel.dr (Below.refl _ _))).writeL (m + 1 + m2) rn D HP2.out.1.good (by omega)
                have p1d : wr.drew.cell? ⟨g, off + m2 * 4 + 1, none⟩ = some (.int .i64 A.at') := p1
                have p2d : wr.drew.cell? ⟨g, off + m2 * 4 + 2, none⟩ = some (.string (M.bs A.data)) := p2
                go_wp2_with fail
                go_region_held3 (fun w' => w'.cell? ⟨g, off + m2 * 4 + 1, none⟩ = some (.int .i64 A.at') ∧ w'.cell? ⟨g, off + m2 * 4 + 2, none⟩ = some (.string (M.bs A.data))) (go_keep)
                  (first
                    | (go_at_call 13; refine hw.mono ?_; rintro e w8 ⟨rfl, t8, k8⟩; have T8 := hid t8; have K8 := hid k8; have p3 := (k8.cell (p := ⟨g, off + m2 * 4 + 1, none⟩) (.inl (.inl hgl))).trans p1d; have p4 := (k8.cell (p := ⟨g, off + m2 * 4 + 2, none⟩) (.inl (.inl hgl))).trans p2d; clear t8 k8 hw))
                have hw2 := (T8.out.bel (Bel.dr (Below.refl _ _))).writeR (m + 1 + m2) rn D HP2.out.1.good (by omega)
                have p3d : w8.drew.cell? ⟨g, off + m2 * 4 + 1, none⟩ = some (.int .i64 A.at') := p3
                have p4d : w8.drew.cell? ⟨g, off + m2 * 4 + 2, none⟩ = some (.string (M.bs A.data)) := p4
                go_wp2_with fail
                go_region_held3 (fun w' => w'.cell? ⟨g, off + m2 * 4 + 1, none⟩ = some (.int .i64 A.at') ∧ w'.cell? ⟨g, off + m2 * 4 + 2, none⟩ = some (.string (M.bs A.data))) (go_keep)
                  (first
                    | (go_at_call 13; refine hw2.mono ?_; rintro e w9 ⟨rfl, t9, k9⟩; have T9 := hid t9; have K9 := hid k9; have p5 := (k9.cell (p := ⟨g, off + m2 * 4 + 1, none⟩) (.inl (.inl hgl))).trans p3d; have p6 := (k9.cell (p := ⟨g, off + m2 * 4 + 2, none⟩) (.inl (.inl hgl))).trans p4d; clear t9 k9 hw2))
                have KT : Hid (Keep (fun j => (j < w.heap.size ∨ j = B1) ∨ j = B2) wr w9) := ((Keep.refl _ wr).dr.tr K8.out).dr.tr K9.out
                have BQ9 : Hid (Blk w9 B1 _ 47) := (KT.out.block B1 (.inl (.inr rfl))).trans BQ.out
                have BW9 : Hid (Blk w9 B2 _ 49) := (KT.out.block B2 (.inr rfl)).trans BW.out
                have c9 := (BW9.out.cell rn).trans (flags_get _ rn hrn4)
                have f9 := BW9.out.frozen rn
                have hrn' : (rn : Int) < 4 := by omega
                generalize write T rn D = T' at *
                generalize writeE T rn D = z2 at *
                clear p1 p2 p1d p2d p3 p4 p3d p4d
                go_wp2_with fail
                go_roundw
                case rel =>
                  have k9 : Keep (fun j => j ≠ B2) w9 (w9.setCell ⟨B2, rn, none⟩ (.bool true)) := (Keep.refl _ _).set (p := ⟨B2, rn, none⟩) (by simp) _
                  refine ⟨m2 + 1, T', by omega, by omega, by go_num, ⟨HP'.out, HPF.out.trans HP2.out.2⟩, T9.out.away k9 (.inr rfl), (k9.block B1 hB2.out.2).trans BQ9.out, ?_, (KK.out.tr (KT.out.weak (fun k h => .inl (.inl h)))).tr (k9.weak (fun k (h : k < w.heap.size) e => by have := hB2.out.1; omega))⟩
                  show Blk _ _ _ _
                  rw [HPW.out, ← flags_set _ rn D hrn4]
                  exact BW9.out.set rn _
                case measure => simp [intOf]; omega
              · by_cases hlL2 : m2 < L2.length
                · have hlm3 : ((m2 : Int) < (L2.length : Int)) := by omega
                  have hlm4 : ¬ ((m2 : Int) < 20) := by omega
                  have hlm5 : decide ((m2 : Int) < 20) = false := decide_eq_false hlm4
                  have hPL := HP2.out.1
                  have HT3 : Hid (Two (fun j => ((j < w.heap.size ∨ j = B1) ∨ j = B2) ∨ j = wr.heap.size) (wr.alloc (.cells #[.string ⟨#[]⟩, .string ⟨#[]⟩, .string ⟨#[]⟩, .string ⟨#[]⟩] 47)) d T c T) := H2.out.box _
                  have BN : Hid (Blk (wr.alloc (.cells #[.string ⟨#[]⟩, .string ⟨#[]⟩, .string ⟨#[]⟩, .string ⟨#[]⟩] 47)) wr.heap.size (arr (fun q => Value.string (M.bs (read T q))) (.string ⟨#[]⟩) 0) 47) := Blk.new _ _ _
                  have BQ3 : Hid (Blk (wr.alloc (.cells #[.string ⟨#[]⟩, .string ⟨#[]⟩, .string ⟨#[]⟩, .string ⟨#[]⟩] 47)) B1 (arr (fun q => .string (M.bs (read S1 q))) (.string ⟨#[]⟩) 4) 47) := BQ.out.al _
                  have BW3 : Hid (Blk (wr.alloc (.cells #[.string ⟨#[]⟩, .string ⟨#[]⟩, .string ⟨#[]⟩, .string ⟨#[]⟩] 47)) B2 (flags (wrote T.wait)) 49) := BW.out.al _
                  have KK3 : Hid (Keep (fun k => k < w.heap.size) w (wr.alloc (.cells #[.string ⟨#[]⟩, .string ⟨#[]⟩, .string ⟨#[]⟩, .string ⟨#[]⟩] 47))) := KK.out.al (fun _ h => h) _
                  have hB3 : Hid (w.heap.size ≤ wr.heap.size ∧ B1 ≠ wr.heap.size ∧ B2 ≠ wr.heap.size) := ⟨KK.out.size, by have := BQ.out.lt; omega, by have := BW.out.lt; omega⟩
                  have HPL := hid hPL
                  clear hPL H2 BQ BW KK
                  go_wp2_with fail
                  generalize wr.alloc (.cells #[.string ⟨#[]⟩, .string ⟨#[]⟩, .string ⟨#[]⟩, .string ⟨#[]⟩] 47) = w5 at *
                  generalize wr.heap.size = B3 at *
                  go_loopw [16] (fun i wr => ∃ q : Nat, q ≤ 4 ∧ i = .int .i64 q ∧ Hid (Two (fun j => ((j < w.heap.size ∨ j = B1) ∨ j = B2) ∨ j = B3) wr d T c T) ∧ Hid (Blk wr B3 (arr (fun q => Value.string (M.bs (read T q))) (.string ⟨#[]⟩) q) 47) ∧ Hid (Blk wr B1 (arr (fun q => .string (M.bs (read S1 q))) (.string ⟨#[]⟩) 4) 47) ∧ Hid (Blk wr B2 (flags (wrote T.wait)) 49) ∧ Hid (Keep (fun k => k < w.heap.size) w wr)) (fun i _ => 4 - (intOf i).toNat)
                  case atStart => exact ⟨0, by omega, rfl, HT3, BN, BQ3, BW3, KK3⟩
                  case round =>
                    clear HT3 BN BQ3 BW3 KK3
                    obtain ⟨q, hq, rfl, H, BN, BQ, BW, KK⟩ := hrel
                    by_cases hq4 : q < 4
                    · have hr1 := read_any _ c T (m + 1 + m2) q wr H.out.symm.fst HPL.out.good
                      have hq' : (q : Int) < 4 := by omega
                      go_wp2_with (go_at_call 19; refine hr1.mono ?_; rintro e w5 ⟨rfl, b5⟩; have H5 := hid (H.out.bel b5); have BN5 := hid (BN.out.below b5 BN.out.lt); have BQ5 := hid (BQ.out.below b5 BQ.out.lt); have BW5 := hid (BW.out.below b5 BW.out.lt); have K5 := hid (KK.out.tr (Keep.of_bel b5 (fun k (h : k < w.heap.size) => Nat.lt_of_lt_of_le h KK.out.size))); have c5 := (BN5.out.cell q).trans (arr_get _ _ q q hq4); have f5 := BN5.out.frozen q; rw [if_neg (Nat.lt_irrefl q)] at c5; clear b5 hr1)
                      go_roundw
                      case rel =>
                        have k5 : Keep (fun j => j ≠ B3) w5 (w5.setCell ⟨B3, q, none⟩ (.string (M.bs (read T q)))) := (Keep.refl _ _).set (p := ⟨B3, q, none⟩) (by simp) _
                        refine ⟨q + 1, by omega, by go_num, H5.out.away k5 (.inr rfl), ?_, (k5.block B1 hB3.out.2.1).trans BQ5.out, (k5.block B2 hB3.out.2.2).trans BW5.out, K5.out.tr (k5.weak (fun k (h : k < w.heap.size) e => by have := hB3.out; omega))⟩
                        show Blk _ _ _ _
                        rw [← arr_set _ _ q hq4]
                        exact BN5.out.set q _
                      case measure => simp [intOf]; omega
                    · obtain rfl : q = 4 := by omega
                      have bA : Bel wr (wr.alloc (.cells #[.int .i64 1] 3)) := Bel.al (Below.refl _ _) _
                      have kA : Keep (fun j => ((j < w.heap.size ∨ j = B1) ∨ j = B2) ∨ j = B3) wr (wr.alloc (.cells #[.int .i64 1] 3)) := Keep.of_bel bA H.out.fst.lt
                      have hbl := (H.out.bel bA).blowR (m + 1 + m2) [1] _ HPL.out.good (one_new wr 1) (by simp)
                      obtain ⟨i0, hi, hz0, hz1, hz2⟩ := info_parts info3
                      have hl9 : (K.take 9).length = nk := by rw [List.length_take, HN9.out]; omega
                      have hc9 : Hid (∀ j u, (csN (K.take 9))[j]? = some u → w.cell? (ka.add j) = some u) := by
                        obtain ⟨a', cap', e, h⟩ := HK.out
                        cases e
                        rcases h with rfl | ⟨g, off, e, hr⟩
                        · intro j u hj; simp [csN] at hj
                        · cases e
                          intro j u hj
                          have hj2 : (csN K)[j]? = some u := by
                            have : csN (K.take 9) = (csN K).take 9 := by simp [csN, List.map_take]
                            rw [this, List.getElem?_take] at hj
                            split at hj
                            · exact hj
                            · cases hj
                          rw [add_lit]
                          exact cellsN hr j u hj2
                      go_wp2_with first
                        | (go_at_call_of 15 (Value.pointer (some (⟨c, 0, none⟩ : Addr))); refine hbl.mono ?_; rintro e w8 ⟨rfl, t8, k8⟩; have T8 := hid t8; have K8 := hid (kA.tr k8); clear t8 k8 hbl)
                        | (go_at_call_of 20 (Value.pointer (some (⟨c, 0, none⟩ : Addr))); refine T8.out.onR.mono ?_; rintro e w9 ⟨rfl, t9, k9⟩; have T9 := hid t9; have K9 := hid (K8.out.tr k9); clear t9 k9)
                        | (at_builtin; refine wpList_append_own _ rfl _ _ 29 rfl w9.heap.size 3 i0 _ 1 8 Try.underlying29 hi hz0 hz1 hz2 rfl (by decide) _ _ _ rfl (World.ownsRow_made w9 #[] 0 (Nat.le_refl _) (Nat.zero_le _) (by simp)) ka nk kcap (csN (K.take 9)) rfl ?qc1 ?qc2 ?qc3 ?qc4 ?qc5 ?qc6 ?_)
                      case qc1 => rw [csN_length, hl9]
                      case qc2 =>
                        intro j u hj
                        refine Lib.cell?_alloc_some _ ?_
                        have hcw := hc9.out j u hj
                        exact ((KK.out.tr (K9.out.weak (fun k h => .inl (.inl (.inl h))))).cell (p := ka.add j) (by have := block_lt_of_cell hcw; exact this)).trans hcw
                      case qc3 => exact csN_one _
                      case qc4 => have := HN9.out; unfold maxLen; omega
                      case qc5 => have := HN9.out; omega
                      case qc6 => simp
                      intro v' w10 hown hgrow hnil
                      obtain ⟨a4, cap4, rfl⟩ : ∃ a' cap', v' = .slice a' nk cap' := by
                        rcases hown.2 with ⟨h1, h2⟩ | ⟨g, cap, cur, hv, _⟩
                        · exact ⟨none, 0, by rw [h1, h2]⟩
                        · exact ⟨_, _, hv⟩
                      have B10 : Bel w9 w10 := ((Below.refl _ w9).alloc (Nat.le_refl _) _).grown hgrow (by simp) (by intro k hk; simp [Value.ownBlock] at hk; omega)
                      have R10 : w10.ownsRow 0 3 1 (.slice a4 nk cap4) (K.take 9).length (csN (K.take 9)) := by rw [hl9]; exact (row_base hown).1
                      have HK9 : Hid (ReadsN w10 (.slice a4 nk cap4) (K.take 9)) := readsN_of R10
                      have T10 := hid (T9.out.bel B10)
                      have K10 := hid (K9.out.tr (Keep.of_bel B10 T9.out.fst.lt))
                      clear hown hgrow hnil R10 B10 T9 K9 T8 K8 hi hz0 hz1 hz2 i0
                      have hK9 : (K.take 9).length ≤ 1000 := by rw [List.length_take]; omega
                      have hbl2 := T10.out.blowL (m + 1 + m2) (K.take 9) _ HPL.out.good HK9.out hK9
                      go_wp2_with first
                        | (go_at_call_of 15 (Value.pointer (some (⟨d, 0, none⟩ : Addr))); refine hbl2.mono ?_; rintro e w11 ⟨rfl, t11, k11⟩; have T11 := hid t11; have K11 := hid (K10.out.tr k11); clear t11 k11 hbl2)
                        | (go_at_call_of 20 (Value.pointer (some (⟨d, 0, none⟩ : Addr))); refine T11.out.onL.mono ?_; rintro e w12 ⟨rfl, t12, k12⟩; have T12 := hid t12; have K12 := hid (K11.out.tr k12); clear t12 k12)
                      have BN2 : Hid (Blk w12 B3 (arr (fun q => Value.string (M.bs (read T q))) (.string ⟨#[]⟩) 4) 47) := (K12.out.block B3 (.inr rfl)).trans BN.out
                      have BQ2 : Hid (Blk w12 B1 (arr (fun q => .string (M.bs (read S1 q))) (.string ⟨#[]⟩) 4) 47) := (K12.out.block B1 (.inl (.inl (.inr rfl)))).trans BQ.out
                      have BW2 : Hid (Blk w12 B2 (flags (wrote T.wait)) 49) := (K12.out.block B2 (.inl (.inr rfl))).trans BW.out
                      have KK2 : Hid (Keep (fun k => k < w.heap.size) w w12) := KK.out.tr (K12.out.weak (fun k h => .inl (.inl (.inl h))))
                      clear T11 K11 K12 T10 K10 BN BQ BW KK H kA bA hc9 HK9
                      generalize hKe : K.take 9 = K9 at *
                      go_loopw [17] (fun i wr => ∃ q : Nat, q ≤ 4 ∧ i = .int .i64 q ∧ Hid (Two (fun j => ((j < w.heap.size ∨ j = B1) ∨ j = B2) ∨ j = B3) wr d (on (blow T K9)) c (on (blow T [1]))) ∧ Hid (Blk wr B3 (arr (fun q => Value.string (M.bs (read T q))) (.string ⟨#[]⟩) 4) 47) ∧ Hid (Blk wr B1 (arr (fun q => .string (M.bs (read S1 q))) (.string ⟨#[]⟩) 4) 47) ∧ Hid (Blk wr B2 (flags (wrote T.wait)) 49) ∧ Hid (Keep (fun k => k < w.heap.size) w wr)) (fun i _ => 4 - (intOf i).toNat)
                      case atStart => exact ⟨0, by omega, rfl, T12, BN2, BQ2, BW2, KK2⟩
                      case round =>
                        clear T12 BN2 BQ2 BW2 KK2
                        obtain ⟨q, hq, rfl, H, BN, BQ, BW, KK⟩ := hrel
                        by_cases hq4 : q < 4
                        · have hq' : (q : Int) < 4 := by omega
                          have hr1 := read_any _ d (on (blow T K9)) (m + 1 + m2) q wr H.out.fst (HPL.out.good.blow _).on
                          have ek := plain_kept HPL.out (q : Int) (by omega) (by omega)
                          generalize check (on (blow T K9)) (q : Int) = y1 at *
                          by_cases hwr : wrote T.wait (q : Int) = true
                          · go_wp2_with (go_at_call_of 19 (Value.pointer (some (⟨d, 0, none⟩ : Addr))); refine hr1.mono ?_; rintro e w13 ⟨rfl, b13⟩; have H13 := hid (H.out.bel b13); have BN13 := hid (BN.out.below b13 BN.out.lt); have BQ13 := hid (BQ.out.below b13 BQ.out.lt); have BW13 := hid (BW.out.below b13 BW.out.lt); have K13 := hid (KK.out.tr (Keep.of_bel b13 (fun k (h : k < w.heap.size) => Nat.lt_of_lt_of_le h KK.out.size))); clear b13 hr1)
                            have hr2 := read_any _ c (on (blow T [1])) (m + 1 + m2) q w13 H13.out.symm.fst (HPL.out.good.blow _).on
                            rw [ek] at hr2
                            generalize check (on (blow T [1])) (q : Int) = y2 at *
                            go_wp2_with (go_at_call_of 19 (Value.pointer (some (⟨c, 0, none⟩ : Addr))); refine hr2.mono ?_; rintro e w14 ⟨rfl, b14⟩; have H14 := hid (H13.out.bel b14); have BN14 := hid (BN13.out.below b14 BN13.out.lt); have BQ14 := hid (BQ13.out.below b14 BQ13.out.lt); have BW14 := hid (BW13.out.below b14 BW13.out.lt); have K14 := hid (K13.out.tr (Keep.of_bel b14 (fun k (h : k < w.heap.size) => Nat.lt_of_lt_of_le h K13.out.size))); have c1 := (BN14.out.cell q).trans (arr_get _ _ 4 q hq4); have c2 := (BQ14.out.cell q).trans (arr_get _ _ 4 q hq4); have c3 := (BW14.out.cell q).trans (flags_get _ q hq4); rw [if_pos hq4] at c1 c2; rw [hwr] at c3; clear b14 hr2)
                            go_roundw
                            case rel => exact ⟨q + 1, by omega, by go_num, H14, BN14, BQ14, BW14, K14⟩
                            case measure => simp [intOf]; omega
                          · have hwf : wrote T.wait (q : Int) = false := by simpa using hwr
                            have el := plain_lasts HP1.out HPL.out HW0.out HP2.out.2 K9 (q : Int) (by omega) (by omega) (fun x hx e => by
                              have : wrote T.wait (q : Int) = true := List.any_eq_true.2 ⟨x, hx, by simp [e]⟩
                              rw [hwf] at this
                              cases this)
                            rw [el] at hr1
                            clear el hwr
                            go_wp2_with (go_at_call_of 19 (Value.pointer (some (⟨d, 0, none⟩ : Addr))); refine hr1.mono ?_; rintro e w13 ⟨rfl, b13⟩; have H13 := hid (H.out.bel b13); have BN13 := hid (BN.out.below b13 BN.out.lt); have BQ13 := hid (BQ.out.below b13 BQ.out.lt); have BW13 := hid (BW.out.below b13 BW.out.lt); have K13 := hid (KK.out.tr (Keep.of_bel b13 (fun k (h : k < w.heap.size) => Nat.lt_of_lt_of_le h KK.out.size))); clear b13 hr1)
                            have hr2 := read_any _ c (on (blow T [1])) (m + 1 + m2) q w13 H13.out.symm.fst (HPL.out.good.blow _).on
                            rw [ek] at hr2
                            generalize check (on (blow T [1])) (q : Int) = y2 at *
                            go_wp2_with (go_at_call_of 19 (Value.pointer (some (⟨c, 0, none⟩ : Addr))); refine hr2.mono ?_; rintro e w14 ⟨rfl, b14⟩; have H14 := hid (H13.out.bel b14); have BN14 := hid (BN13.out.below b14 BN13.out.lt); have BQ14 := hid (BQ13.out.below b14 BQ13.out.lt); have BW14 := hid (BW13.out.below b14 BW13.out.lt); have K14 := hid (K13.out.tr (Keep.of_bel b14 (fun k (h : k < w.heap.size) => Nat.lt_of_lt_of_le h K13.out.size))); have c1 := (BN14.out.cell q).trans (arr_get _ _ 4 q hq4); have c2 := (BQ14.out.cell q).trans (arr_get _ _ 4 q hq4); have c3 := (BW14.out.cell q).trans (flags_get _ q hq4); rw [if_pos hq4] at c1 c2; rw [hwf] at c3; clear b14 hr2)
                            go_roundw
                            case rel => exact ⟨q + 1, by omega, by go_num, H14, BN14, BQ14, BW14, K14⟩
                            case measure => simp [intOf]; omega
                        · obtain rfl : q = 4 := by omega
                          go_wp2_with fail
                          go_ret
                          exact ⟨rfl, KK.out.below⟩
                · have hlm3 : ¬ ((m2 : Int) < (L2.length : Int)) := by omega
                  have hlm4 : decide ((m2 : Int) < (L2.length : Int)) = false := decide_eq_false hlm3
                  have hPL := HP2.out.1
                  have HT3 : Hid (Two (fun j => ((j < w.heap.size ∨ j = B1) ∨ j = B2) ∨ j = wr.heap.size) (wr.alloc (.cells #[.string ⟨#[]⟩, .string ⟨#[]⟩, .string ⟨#[]⟩, .string ⟨#[]⟩] 47)) d T c T) := H2.out.box _
                  have BN : Hid (Blk (wr.alloc (.cells #[.string ⟨#[]⟩, .string ⟨#[]⟩, .string ⟨#[]⟩, .string ⟨#[]⟩] 47)) wr.heap.size (arr (fun q => Value.string (M.bs (read T q))) (.string ⟨#[]⟩) 0) 47) := Blk.new _ _ _
                  have BQ3 : Hid (Blk (wr.alloc (.cells #[.string ⟨#[]⟩, .string ⟨#[]⟩, .string ⟨#[]⟩, .string ⟨#[]⟩] 47)) B1 (arr (fun q => .string (M.bs (read S1 q))) (.string ⟨#[]⟩) 4) 47) := BQ.out.al _
                  have BW3 : Hid (Blk (wr.alloc (.cells #[.string ⟨#[]⟩, .string ⟨#[]⟩, .string ⟨#[]⟩, .string ⟨#[]⟩] 47)) B2 (flags (wrote T.wait)) 49) := BW.out.al _
                  have KK3 : Hid (Keep (fun k => k < w.heap.size) w (wr.alloc (.cells #[.string ⟨#[]⟩, .string ⟨#[]⟩, .string ⟨#[]⟩, .string ⟨#[]⟩] 47))) := KK.out.al (fun _ h => h) _
                  have hB3 : Hid (w.heap.size ≤ wr.heap.size ∧ B1 ≠ wr.heap.size ∧ B2 ≠ wr.heap.size) := ⟨KK.out.size, by have := BQ.out.lt; omega, by have := BW.out.lt; omega⟩
                  have HPL := hid hPL
                  clear hPL H2 BQ BW KK
                  go_wp2_with fail
                  generalize wr.alloc (.cells #[.string ⟨#[]⟩, .string ⟨#[]⟩, .string ⟨#[]⟩, .string ⟨#[]⟩] 47) = w5 at *
                  generalize wr.heap.size = B3 at *
                  go_loopw [16] (fun i wr => ∃ q : Nat, q ≤ 4 ∧ i = .int .i64 q ∧ Hid (Two (fun j => ((j < w.heap.size ∨ j = B1) ∨ j = B2) ∨ j = B3) wr d T c T) ∧ Hid (Blk wr B3 (arr (fun q => Value.string (M.bs (read T q))) (.string ⟨#[]⟩) q) 47) ∧ Hid (Blk wr B1 (arr (fun q => .string (M.bs (read S1 q))) (.string ⟨#[]⟩) 4) 47) ∧ Hid (Blk wr B2 (flags (wrote T.wait)) 49) ∧ Hid (Keep (fun k => k < w.heap.size) w wr)) (fun i _ => 4 - (intOf i).toNat)
                  case atStart => exact ⟨0, by omega, rfl, HT3, BN, BQ3, BW3, KK3⟩
                  case round =>
                    clear HT3 BN BQ3 BW3 KK3
                    obtain ⟨q, hq, rfl, H, BN, BQ, BW, KK⟩ := hrel
                    by_cases hq4 : q < 4
                    · have hr1 := read_any _ c T (m + 1 + m2) q wr H.out.symm.fst HPL.out.good
                      have hq' : (q : Int) < 4 := by omega
                      go_wp2_with (go_at_call 19; refine hr1.mono ?_; rintro e w5 ⟨rfl, b5⟩; have H5 := hid (H.out.bel b5); have BN5 := hid (BN.out.below b5 BN.out.lt); have BQ5 := hid (BQ.out.below b5 BQ.out.lt); have BW5 := hid (BW.out.below b5 BW.out.lt); have K5 := hid (KK.out.tr (Keep.of_bel b5 (fun k (h : k < w.heap.size) => Nat.lt_of_lt_of_le h KK.out.size))); have c5 := (BN5.out.cell q).trans (arr_get _ _ q q hq4); have f5 := BN5.out.frozen q; rw [if_neg (Nat.lt_irrefl q)] at c5; clear b5 hr1)
                      go_roundw
                      case rel =>
                        have k5 : Keep (fun j => j ≠ B3) w5 (w5.setCell ⟨B3, q, none⟩ (.string (M.bs (read T q)))) := (Keep.refl _ _).set (p := ⟨B3, q, none⟩) (by simp) _
                        refine ⟨q + 1, by omega, by go_num, H5.out.away k5 (.inr rfl), ?_, (k5.block B1 hB3.out.2.1).trans BQ5.out, (k5.block B2 hB3.out.2.2).trans BW5.out, K5.out.tr (k5.weak (fun k (h : k < w.heap.size) e => by have := hB3.out; omega))⟩
                        show Blk _ _ _ _
                        rw [← arr_set _ _ q hq4]
                        exact BN5.out.set q _
                      case measure => simp [intOf]; omega
                    · obtain rfl : q = 4 := by omega
                      have bA : Bel wr (wr.alloc (.cells #[.int .i64 1] 3)) := Bel.al (Below.refl _ _) _
                      have kA : Keep (fun j => ((j < w.heap.size ∨ j = B1) ∨ j = B2) ∨ j = B3) wr (wr.alloc (.cells #[.int .i64 1] 3)) := Keep.of_bel bA H.out.fst.lt
                      have hbl := (H.out.bel bA).blowR (m + 1 + m2) [1] _ HPL.out.good (one_new wr 1) (by simp)
                      obtain ⟨i0, hi, hz0, hz1, hz2⟩ := info_parts info3
                      have hl9 : (K.take 9).length = nk := by rw [List.length_take, HN9.out]; omega
                      have hc9 : Hid (∀ j u, (csN (K.take 9))[j]? = some u → w.cell? (ka.add j) = some u) := by
                        obtain ⟨a', cap', e, h⟩ := HK.out
                        cases e
                        rcases h with rfl | ⟨g, off, e, hr⟩
                        · intro j u hj; simp [csN] at hj
                        · cases e
                          intro j u hj
                          have hj2 : (csN K)[j]? = some u := by
                            have : csN (K.take 9) = (csN K).take 9 := by simp [csN, List.map_take]
                            rw [this, List.getElem?_take] at hj
                            split at hj
                            · exact hj
                            · cases hj
                          rw [add_lit]
                          exact cellsN hr j u hj2
                      go_wp2_with first
                        | (go_at_call_of 15 (Value.pointer (some (⟨c, 0, none⟩ : Addr))); refine hbl.mono ?_; rintro e w8 ⟨rfl, t8, k8⟩; have T8 := hid t8; have K8 := hid (kA.tr k8); clear t8 k8 hbl)
                        | (go_at_call_of 20 (Value.pointer (some (⟨c, 0, none⟩ : Addr))); refine T8.out.onR.mono ?_; rintro e w9 ⟨rfl, t9, k9⟩; have T9 := hid t9; have K9 := hid (K8.out.tr k9); clear t9 k9)
                        | (at_builtin; refine wpList_append_own _ rfl _ _ 29 rfl w9.heap.size 3 i0 _ 1 8 Try.underlying29 hi hz0 hz1 hz2 rfl (by decide) _ _ _ rfl (World.ownsRow_made w9 #[] 0 (Nat.le_refl _) (Nat.zero_le _) (by simp)) ka nk kcap (csN (K.take 9)) rfl ?qc1 ?qc2 ?qc3 ?qc4 ?qc5 ?qc6 ?_)
                      case qc1 => rw [csN_length, hl9]
                      case qc2 =>
                        intro j u hj
                        refine Lib.cell?_alloc_some _ ?_
                        have hcw := hc9.out j u hj
                        exact ((KK.out.tr (K9.out.weak (fun k h => .inl (.inl (.inl h))))).cell (p := ka.add j) (by have := block_lt_of_cell hcw; exact this)).trans hcw
                      case qc3 => exact csN_one _
                      case qc4 => have := HN9.out; unfold maxLen; omega
                      case qc5 => have := HN9.out; omega
                      case qc6 => simp
                      intro v' w10 hown hgrow hnil
                      obtain ⟨a4, cap4, rfl⟩ : ∃ a' cap', v' = .slice a' nk cap' := by
                        rcases hown.2 with ⟨h1, h2⟩ | ⟨g, cap, cur, hv, _⟩
                        · exact ⟨none, 0, by rw [h1, h2]⟩
                        · exact ⟨_, _, hv⟩
                      have B10 : Bel w9 w10 := ((Below.refl _ w9).alloc (Nat.le_refl _) _).grown hgrow (by simp) (by intro k hk; simp [Value.ownBlock] at hk; omega)
                      have R10 : w10.ownsRow 0 3 1 (.slice a4 nk cap4) (K.take 9).length (csN (K.take 9)) := by rw [hl9]; exact (row_base hown).1
                      have HK9 : Hid (ReadsN w10 (.slice a4 nk cap4) (K.take 9)) := readsN_of R10
                      have T10 := hid (T9.out.bel B10)
                      have K10 := hid (K9.out.tr (Keep.of_bel B10 T9.out.fst.lt))
                      clear hown hgrow hnil R10 B10 T9 K9 T8 K8 hi hz0 hz1 hz2 i0
                      have hK9 : (K.take 9).length ≤ 1000 := by rw [List.length_take]; omega
                      have hbl2 := T10.out.blowL (m + 1 + m2) (K.take 9) _ HPL.out.good HK9.out hK9
                      go_wp2_with first
                        | (go_at_call_of 15 (Value.pointer (some (⟨d, 0, none⟩ : Addr))); refine hbl2.mono ?_; rintro e w11 ⟨rfl, t11, k11⟩; have T11 := hid t11; have K11 := hid (K10.out.tr k11); clear t11 k11 hbl2)
                        | (go_at_call_of 20 (Value.pointer (some (⟨d, 0, none⟩ : Addr))); refine T11.out.onL.mono ?_; rintro e w12 ⟨rfl, t12, k12⟩; have T12 := hid t12; have K12 := hid (K11.out.tr k12); clear t12 k12)
                      have BN2 : Hid (Blk w12 B3 (arr (fun q => Value.string (M.bs (read T q))) (.string ⟨#[]⟩) 4) 47) := (K12.out.block B3 (.inr rfl)).trans BN.out
                      have BQ2 : Hid (Blk w12 B1 (arr (fun q => .string (M.bs (read S1 q))) (.string ⟨#[]⟩) 4) 47) := (K12.out.block B1 (.inl (.inl (.inr rfl)))).trans BQ.out
                      have BW2 : Hid (Blk w12 B2 (flags (wrote T.wait)) 49) := (K12.out.block B2 (.inl (.inr rfl))).trans BW.out
                      have KK2 : Hid (Keep (fun k => k < w.heap.size) w w12) := KK.out.tr (K12.out.weak (fun k h => .inl (.inl (.inl h))))
                      clear T11 K11 K12 T10 K10 BN BQ BW KK H kA bA hc9 HK9
                      generalize hKe : K.take 9 = K9 at *
                      go_loopw [17] (fun i wr => ∃ q : Nat, q ≤ 4 ∧ i = .int .i64 q ∧ Hid (Two (fun j => ((j < w.heap.size ∨ j = B1) ∨ j = B2) ∨ j = B3) wr d (on (blow T K9)) c (on (blow T [1]))) ∧ Hid (Blk wr B3 (arr (fun q => Value.string (M.bs (read T q))) (.string ⟨#[]⟩) 4) 47) ∧ Hid (Blk wr B1 (arr (fun q => .string (M.bs (read S1 q))) (.string ⟨#[]⟩) 4) 47) ∧ Hid (Blk wr B2 (flags (wrote T.wait)) 49) ∧ Hid (Keep (fun k => k < w.heap.size) w wr)) (fun i _ => 4 - (intOf i).toNat)
                      case atStart => exact ⟨0, by omega, rfl, T12, BN2, BQ2, BW2, KK2⟩
                      case round =>
                        clear T12 BN2 BQ2 BW2 KK2
                        obtain ⟨q, hq, rfl, H, BN, BQ, BW, KK⟩ := hrel
                        by_cases hq4 : q < 4
                        · have hq' : (q : Int) < 4 := by omega
                          have hr1 := read_any _ d (on (blow T K9)) (m + 1 + m2) q wr H.out.fst (HPL.out.good.blow _).on
                          have ek := plain_kept HPL.out (q : Int) (by omega) (by omega)
                          generalize check (on (blow T K9)) (q : Int) = y1 at *
                          by_cases hwr : wrote T.wait (q : Int) = true
                          · go_wp2_with (go_at_call_of 19 (Value.pointer (some (⟨d, 0, none⟩ : Addr))); refine hr1.mono ?_; rintro e w13 ⟨rfl, b13⟩; have H13 := hid (H.out.bel b13); have BN13 := hid (BN.out.below b13 BN.out.lt); have BQ13 := hid (BQ.out.below b13 BQ.out.lt); have BW13 := hid (BW.out.below b13 BW.out.lt); have K13 := hid (KK.out.tr (Keep.of_bel b13 (fun k (h : k < w.heap.size) => Nat.lt_of_lt_of_le h KK.out.size))); clear b13 hr1)
                            have hr2 := read_any _ c (on (blow T [1])) (m + 1 + m2) q w13 H13.out.symm.fst (HPL.out.good.blow _).on
                            rw [ek] at hr2
                            generalize check (on (blow T [1])) (q : Int) = y2 at *
                            go_wp2_with (go_at_call_of 19 (Value.pointer (some (⟨c, 0, none⟩ : Addr))); refine hr2.mono ?_; rintro e w14 ⟨rfl, b14⟩; have H14 := hid (H13.out.bel b14); have BN14 := hid (BN13.out.below b14 BN13.out.lt); have BQ14 := hid (BQ13.out.below b14 BQ13.out.lt); have BW14 := hid (BW13.out.below b14 BW13.out.lt); have K14 := hid (K13.out.tr (Keep.of_bel b14 (fun k (h : k < w.heap.size) => Nat.lt_of_lt_of_le h K13.out.size))); have c1 := (BN14.out.cell q).trans (arr_get _ _ 4 q hq4); have c2 := (BQ14.out.cell q).trans (arr_get _ _ 4 q hq4); have c3 := (BW14.out.cell q).trans (flags_get _ q hq4); rw [if_pos hq4] at c1 c2; rw [hwr] at c3; clear b14 hr2)
                            go_roundw
                            case rel => exact ⟨q + 1, by omega, by go_num, H14, BN14, BQ14, BW14, K14⟩
                            case measure => simp [intOf]; omega
                          · have hwf : wrote T.wait (q : Int) = false := by simpa using hwr
                            have el := plain_lasts HP1.out HPL.out HW0.out HP2.out.2 K9 (q : Int) (by omega) (by omega) (fun x hx e => by
                              have : wrote T.wait (q : Int) = true := List.any_eq_true.2 ⟨x, hx, by simp [e]⟩
                              rw [hwf] at this
                              cases this)
                            rw [el] at hr1
                            clear el hwr
                            go_wp2_with (go_at_call_of 19 (Value.pointer (some (⟨d, 0, none⟩ : Addr))); refine hr1.mono ?_; rintro e w13 ⟨rfl, b13⟩; have H13 := hid (H.out.bel b13); have BN13 := hid (BN.out.below b13 BN.out.lt); have BQ13 := hid (BQ.out.below b13 BQ.out.lt); have BW13 := hid (BW.out.below b13 BW.out.lt); have K13 := hid (KK.out.tr (Keep.of_bel b13 (fun k (h : k < w.heap.size) => Nat.lt_of_lt_of_le h KK.out.size))); clear b13 hr1)
                            have hr2 := read_any _ c (on (blow T [1])) (m + 1 + m2) q w13 H13.out.symm.fst (HPL.out.good.blow _).on
                            rw [ek] at hr2
                            generalize check (on (blow T [1])) (q : Int) = y2 at *
                            go_wp2_with (go_at_call_of 19 (Value.pointer (some (⟨c, 0, none⟩ : Addr))); refine hr2.mono ?_; rintro e w14 ⟨rfl, b14⟩; have H14 := hid (H13.out.bel b14); have BN14 := hid (BN13.out.below b14 BN13.out.lt); have BQ14 := hid (BQ13.out.below b14 BQ13.out.lt); have BW14 := hid (BW13.out.below b14 BW13.out.lt); have K14 := hid (K13.out.tr (Keep.of_bel b14 (fun k (h : k < w.heap.size) => Nat.lt_of_lt_of_le h K13.out.size))); have c1 := (BN14.out.cell q).trans (arr_get _ _ 4 q hq4); have c2 := (BQ14.out.cell q).trans (arr_get _ _ 4 q hq4); have c3 := (BW14.out.cell q).trans (flags_get _ q hq4); rw [if_pos hq4] at c1 c2; rw [hwf] at c3; clear b14 hr2)
                            go_roundw
                            case rel => exact ⟨q + 1, by omega, by go_num, H14, BN14, BQ14, BW14, K14⟩
                            case measure => simp [intOf]; omega
                        · obtain rfl : q = 4 := by omega
                          go_wp2_with fail
                          go_ret
                          exact ⟨rfl, KK.out.below⟩
end Go.Proofs.Ytoelaemneoabfaa
