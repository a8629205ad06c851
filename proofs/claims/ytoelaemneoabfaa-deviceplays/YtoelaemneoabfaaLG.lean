/-
  The law DeviceFuses, walked: its walk.
-/
import Derived.Test.YtoelaemneoabfaaLF
import Derived.Deep.RegionHeld3
namespace Go.Proofs.Ytoelaemneoabfaa
open Go.RowKit

theorem i64_mask15 (n : Int) : bits .and .i64 n 15 = n % 16 := i64_mask n 4 (by omega)
def ShowsA (w : World) (a : Option Addr) (L : List Act) : Prop := L = [] ∨ ∃ g off, a = some ⟨g, off, none⟩ ∧ RowA w g off L
set_option maxRecDepth 100000 in
set_option maxHeartbeats 8000000 in
theorem fuses_some (L : List Act) (a : Option Addr) (cap : Nat) (n : Int) (K : List Int) (ka : Addr) (kcap : Nat) (w : World) (hL : L.length ≤ maxLen) (hs : ShowsA w a L) (hKl : K.length ≤ maxLen) (hkc : K.length ≤ kcap) (hK : ReadsN w (.slice (some ka) K.length kcap) K) :
    Calls Try.prog 6 #[.slice a L.length cap, .int .i64 n, .slice (some ka) K.length kcap] w fun e w' => e = .returned (.bool true) ∧ Bel w w' := by
  have hr := i64_mask15 n
  have h0 : 0 ≤ n % 16 := by omega
  have h3 : n % 16 ≤ 15 := by omega
  generalize n % 16 = r at *
  obtain ⟨nk, hnk, hnk', hnk9⟩ : ∃ nk : Nat, min (K.length : Int) 9 = (nk : Int) ∧ nk ≤ K.length ∧ nk = min K.length 9 := ⟨min K.length 9, by omega, by omega, rfl⟩
  obtain ⟨i0, hi, hz0, hz1, hz2⟩ := info_parts info3
  have HN9 := hid hnk9
  have hkc' : nk ≤ kcap := by omega
  clear hnk9 hkc
  have HS := hid hs
  have HK := hid hK
  clear hs hK
  go_enter Try.func6, Try.ntmps6
  go_wp2_with (go_at_call 8; refine (speaks_any _).mono ?_; rintro e w1 ⟨rfl, hb⟩)
  refine (new_any 4 _ (by omega) (by omega)).mono ?_
  rintro e w2 ⟨d, rfl, hd, b2⟩
  have B2 : Hid (Bel w w2) := hb.tr b2
  have HD : Hid (Dev (fun k => k < w.heap.size) w2 d (new 4)) := hd.weak (fun k (hk : k < w.heap.size) => by
    show k < w1.heap.size
    have := hb.size
    omega)
  clear hd b2 hb
  go_wp2_with fail
  refine (copy_any _ d _ 0 _ HD.out (good_new 4 (by omega) (by omega))).mono ?_
  rintro e w3 ⟨c, rfl, hc, b3⟩
  have HT : Hid (Two (fun k => k < w.heap.size) w3 d (new 4) c (new 4)) := Two.new HD.out b3 hc
  have B3 : Hid (Bel w w3) := B2.out.tr b3
  clear HD hc b3 B2
  have hc9 : Hid (∀ j u, (csN (K.take 9))[j]? = some u → w3.cell? (ka.add j) = some u) := by
    obtain ⟨a', cap', e, h⟩ := HK.out
    cases e
    rcases h with rfl | ⟨g, off, e, hr⟩
    · intro j u hj; simp [csN] at hj
    · cases e
      intro j u hj
      have hj2 : (csN K)[j]? = some u := by
        have : csN (K.take 9) = (csN K).take 9 := by simp [csN, List.map_take]
        rw [this, List.getElem?_take] at hj
        split at hj
        · exact hj
        · cases hj
      rw [add_lit]
      have := cellsN hr j u hj2
      exact (bel_cell B3.out (block_lt_of_cell this) (off + j)).trans this
  have hl9 : (K.take 9).length = nk := by rw [List.length_take, HN9.out]; omega
  go_wp2_with (at_builtin; refine wpList_append_own _ rfl _ _ 29 rfl w3.heap.size 3 i0 _ 1 8 Try.underlying29 hi hz0 hz1 hz2 rfl (by decide) _ _ _ rfl (World.ownsRow_made w3 #[] 0 (Nat.le_refl _) (Nat.zero_le _) (by simp)) ka nk kcap (csN (K.take 9)) rfl ?qc1 ?qc2 ?qc3 ?qc4 ?qc5 ?qc6 ?_)
  case qc1 => rw [csN_length, hl9]
  case qc2 =>
    intro j u hj
    exact Lib.cell?_alloc_some _ (hc9.out j u hj)
  case qc3 => exact csN_one _
  case qc4 => have := HN9.out; unfold maxLen; omega
  case qc5 => have := HN9.out; omega
  case qc6 => simp
  intro v' w4 hown hgrow hnil
  obtain ⟨a4, cap4, rfl⟩ : ∃ a' cap', v' = .slice a' nk cap' := by
    rcases hown.2 with ⟨h1, h2⟩ | ⟨g, cap, cur, hv, _⟩
    · exact ⟨none, 0, by rw [h1, h2]⟩
    · exact ⟨_, _, hv⟩
  have R4 := hid hown
  have B4 : Hid (Bel w3 w4) := ((Below.refl _ w3).alloc (Nat.le_refl _) _).grown hgrow (by simp) (by intro k hk; simp [Value.ownBlock] at hk; omega)
  clear hown hgrow hnil hc9 HK hkc' hnk hnk' hr hi hz0 hz1 hz2 i0
  have HT4 := hid (HT.out.more B4.out)
  have hK9 : (K.take 9).length ≤ 1000 := by rw [List.length_take]; omega
  generalize hk9 : K.take 9 = K9 at *
  subst hl9
  have HF : Calls Try.prog 21 #[.pointer (some ⟨d, 0, none⟩), .int .i64 (1 + r), .slice a4 K9.length cap4] w4 fun e w' => e = .returned (.tuple #[]) ∧ Two (fun j => j < w.heap.size ∨ (w3.heap.size ≤ j ∧ j < w4.heap.size)) w' d (fuse (new 4) (1 + r) K9) c (new 4) ∧ Keep (fun j => j < w.heap.size ∨ (w3.heap.size ≤ j ∧ j < w4.heap.size)) w4 w' := by
    obtain ⟨Y, hd, hs⟩ := HT4.out.left
    refine (fuse_any Y d _ (1 + r) K9 _ w4 hd (row_base R4.out).1 hK9).mono ?_
    rintro e w' ⟨rfl, h', k'⟩
    exact ⟨rfl, hs _ _ h' k'⟩
  clear HT4 HT
  obtain ⟨N, hN⟩ : ∃ N : Nat, 1 + r = (N : Int) := ⟨(1 + r).toNat, by omega⟩
  rw [hN] at HF ⊢
  have hN1 : 1 ≤ N := by omega
  have hN2 : N ≤ 16 := by omega
  clear h0 h3
  have HR : Hid (Rel N K9 0 (fuse (new 4) N K9) (new 4)) := by
    refine ⟨⟨good_fuse (good_new 4 (by omega) (by omega)) _ _ (by omega) hK9, good_new 4 (by omega) (by omega)⟩, ⟨rfl, rfl⟩, fun _ => ⟨?_, rfl, rfl⟩, fun h => by omega⟩
    simp [fuse, new]; omega
  go_wp2_with (go_at_call 21; refine HF.mono ?_; rintro e w5 ⟨rfl, t5, k5⟩; have T5 := hid t5; have K5 := hid k5; clear t5 k5 HF)
  go_loopw [10, 11] (fun dn i wr => ∃ (m : Nat) (Sd Sc : St), m ≤ L.length ∧ m ≤ 30 ∧ i = .int .i64 m ∧ dn = .int .i64 m ∧ Hid (Rel N K9 m Sd Sc) ∧ Hid (Two (fun j => j < w.heap.size ∨ (w3.heap.size ≤ j ∧ j < w4.heap.size)) wr d Sd c Sc) ∧ Hid (Keep (fun j => j < w.heap.size ∨ (w3.heap.size ≤ j ∧ j < w4.heap.size)) w4 wr)) (fun _ i _ => 30 - (intOf i).toNat)
  case atStart => exact ⟨0, _, _, by omega, by omega, rfl, rfl, HR, T5, K5⟩
  case round =>
    obtain ⟨m, Sd, Sc, hm, hm30, rfl, rfl, R, T, KK⟩ := hrel
    by_cases hlt : m < L.length ∧ m < 30
    · obtain ⟨hlt, hlt30⟩ := hlt
      obtain ⟨g, off, rfl, hrow⟩ : ∃ g off, a = some ⟨g, off, none⟩ ∧ RowA w g off L := by
        rcases HS.out with h | h
        · subst h; simp at hlt
        · exact h
      obtain ⟨q0, q1, q2, q3, q4, q5, q6, q7, q8, ka', kc', q9, q10⟩ := hrow m hlt
      have hgl := block_lt_of_cell q0
      have kp : ∀ o, wr.cell? ⟨g, o, none⟩ = w.cell? ⟨g, o, none⟩ := fun o => (KK.out.cell (p := ⟨g, o, none⟩) (.inl hgl)).trans ((bel_cell (B3.out.tr B4.out) hgl) o)
      rw [← kp] at q0 q1 q2 q3
      have hsz : (M.bs L[m].data).size = L[m].data.length := M.bs_size _
      have ce := cut_eq 256 L[m].data
      have e256 : ((256 : Nat) : Int) = 256 := rfl
      rw [e256] at ce
      have hlm : (m : Int) < (L.length : Int) := by omega
      clear kp hrow
      generalize L[m] = A at *
      obtain ⟨nd, hnd, hnd'⟩ : ∃ nd : Nat, min (A.data.length : Int) 256 = (nd : Int) ∧ nd ≤ A.data.length := ⟨min A.data.length 256, by omega, by omega⟩
      rw [hnd, Int.toNat_natCast] at ce
      have hD : (A.data.take 256).length ≤ 256 := by rw [List.length_take]; omega
      unfold maxLen at q7 hL
      rw [q9] at q3
      generalize A.data.take 256 = D at *
      have HQ := hid q4
      clear q4 q5 q6 q8 q10
      go_wp2_with fail
      go_region
      go_wp2_with fail
      refine (kind_any _ _ _ _ _ _ _ rfl _).mono ?_
      rintro e w6 ⟨rfl, b6⟩
      have b6' : Bel wr w6 := (Bel.dr (Below.refl _ _)).tr b6
      have T6 := hid (T.out.bel b6')
      have K6 := hid (KK.out.tr (Keep.of_bel b6' T.out.fst.lt))
      have p1 := (bel_cell b6' (block_lt_of_cell q1) (off + m * 4 + 1)).trans q1
      have hmask := i64_mask3 A.at'
      have r0 : 0 ≤ A.at' % 4 := by omega
      have r3 : A.at' % 4 ≤ 3 := by omega
      clear q0 q1 q2 q3 q7 q9 hsz hnd hnd' ce HQ T KK b6 b6'
      generalize A.at' % 4 = rr at *
      generalize kindI A.what = kk at *
      have hbk : Hid (ReadsN w6 (.slice a4 K9.length cap4) K9) := by
        obtain ⟨r40, r4b⟩ := row_base R4.out
        exact readsN_of (row_keep r40 K6.out (fun g hg => .inr ⟨r4b g hg, (r40.lt g hg).2⟩))
      have gc : Hid (Good m (ahead N m K9 Sc)) := by
        unfold ahead
        split
        · exact R.out.good.2.blow _
        · exact R.out.good.2
      by_cases hmn : m + 1 = N
      · have hmn' : ((m : Int) + 1 == (N : Int)) = true := by simp; omega
        have hbl := T6.out.blowR m K9 (.slice a4 K9.length cap4) R.out.good.2 hbk.out hK9
        rw [show blow Sc K9 = ahead N m K9 Sc from (if_pos hmn).symm] at hbl
        clear T6
        by_cases hkk : kk = 4
        · subst hkk
          obtain ⟨es, R', od, oc⟩ := rel_sync R.out (by omega)
          have HR' := hid R'
          clear R'
          go_wp2_with (go_at_call 15; refine hbl.mono ?_; rintro e w7 ⟨rfl, t7, k7⟩; have T7 := hid t7; have K7 := hid (K6.out.tr k7); have p7 := (k7.cell (p := ⟨g, off + m * 4 + 1, none⟩) (.inl hgl)).trans p1; clear t7 k7 hbl)
          have hs1 := T7.out.syncL m R.out.good.1 (by omega)
          rw [es] at hs1
          clear es
          go_wp2_with (go_at_call_of 14 (Value.pointer (some (⟨d, 0, none⟩ : Addr))); refine hs1.mono ?_; rintro e w8 ⟨rfl, t8, k8⟩; have T8 := hid t8; have K8 := hid (K7.out.tr k8); clear t8 k8 hs1)
          have hs2 := T8.out.syncR m gc.out (by omega)
          generalize syncE (ahead N m K9 Sc) = z at *
          go_wp2_with (go_at_call_of 14 (Value.pointer (some (⟨c, 0, none⟩ : Addr))); refine hs2.mono ?_; rintro e w9 ⟨rfl, t9, k9⟩; have T9 := hid t9; have K9' := hid (K8.out.tr k9); clear t9 k9 hs2)
          have hof1 := off_any _ d _ w9 T9.out.fst
          have hof2 := off_any _ c _ w9 T9.out.symm.fst
          rw [od] at hof1
          rw [oc] at hof2
          clear od oc
          by_cases hge : N ≤ m + 1
          · have hge' : (N : Int) ≤ (m : Int) + 1 := by omega
            rw [decide_eq_true hge] at hof1 hof2
            go_wp2_with first
              | (go_at_call_of 24 (Value.pointer (some (⟨d, 0, none⟩ : Addr))); refine hof1.mono ?_; rintro e w10 ⟨rfl, rfl⟩)
              | (go_at_call_of 24 (Value.pointer (some (⟨c, 0, none⟩ : Addr))); refine hof2.mono ?_; rintro e w10 ⟨rfl, rfl⟩)
            go_roundw
            case rel => exact ⟨m + 1, _, _, by omega, by omega, by go_num, by go_num, HR', T9, K9'⟩
            case measure => simp [intOf]; omega
          · have hge' : ¬ (N : Int) ≤ (m : Int) + 1 := by omega
            have hge2 : decide ((N : Int) ≤ (m : Int) + 1) = false := decide_eq_false hge'
            rw [decide_eq_false hge] at hof1 hof2
            go_wp2_with first
              | (go_at_call_of 24 (Value.pointer (some (⟨d, 0, none⟩ : Addr))); refine hof1.mono ?_; rintro e w10 ⟨rfl, rfl⟩)
              | (go_at_call_of 24 (Value.pointer (some (⟨c, 0, none⟩ : Addr))); refine hof2.mono ?_; rintro e w10 ⟨rfl, rfl⟩)
            go_roundw
            case rel => exact ⟨m + 1, _, _, by omega, by omega, by go_num, by go_num, HR', T9, K9'⟩
            case measure => simp [intOf]; omega
        · have hkk' : (kk == 4) = false := by simpa using hkk
          obtain ⟨es, R', od, oc⟩ := rel_write R.out (by omega) rr D r0 r3 hD
          have HR' := hid R'
          clear R'
          go_wp2_with (go_at_call 15; refine hbl.mono ?_; rintro e w7 ⟨rfl, t7, k7⟩; have T7 := hid t7; have K7 := hid (K6.out.tr k7); have p7 := (k7.cell (p := ⟨g, off + m * 4 + 1, none⟩) (.inl hgl)).trans p1; clear t7 k7 hbl)
          have T7d := hid (T7.out.bel (Bel.dr (Below.refl _ _)))
          have p7d : w7.drew.cell? ⟨g, off + m * 4 + 1, none⟩ = some (.int .i64 A.at') := p7
          have hs1 := T7d.out.writeL m rr D R.out.good.1 (by omega)
          rw [es] at hs1
          clear es
          go_wp2_with fail
          go_region_held3 (fun w' => w'.cell? ⟨g, off + m * 4 + 1, none⟩ = some (.int .i64 A.at')) (go_keep)
            (first
              | (go_at_call_of 13 (Value.pointer (some (⟨d, 0, none⟩ : Addr))); refine hs1.mono ?_; rintro e w8 ⟨rfl, t8, k8⟩; have T8 := hid t8; have K8 := hid (K7.out.dr.tr k8); have p8 := (k8.cell (p := ⟨g, off + m * 4 + 1, none⟩) (.inl hgl)).trans p7d; have hs2 := T8.out.writeR m rr D gc.out (by omega); clear t8 k8 hs1)
              | (go_at_call_of 13 (Value.pointer (some (⟨c, 0, none⟩ : Addr))); refine hs2.mono ?_; rintro e w9 ⟨rfl, t9, k9⟩; have T9 := hid t9; have K9' := hid (K8.out.tr k9); have p9 := (k9.cell (p := ⟨g, off + m * 4 + 1, none⟩) (.inl hgl)).trans p8; clear t9 k9 hs2))
          have hof1 := off_any _ d _ w9 T9.out.fst
          have hof2 := off_any _ c _ w9 T9.out.symm.fst
          rw [od] at hof1
          rw [oc] at hof2
          clear od oc
          by_cases hge : N ≤ m + 1
          · have hge' : (N : Int) ≤ (m : Int) + 1 := by omega
            rw [decide_eq_true hge] at hof1 hof2
            go_wp2_with first
              | (go_at_call_of 24 (Value.pointer (some (⟨d, 0, none⟩ : Addr))); refine hof1.mono ?_; rintro e w10 ⟨rfl, rfl⟩)
              | (go_at_call_of 24 (Value.pointer (some (⟨c, 0, none⟩ : Addr))); refine hof2.mono ?_; rintro e w10 ⟨rfl, rfl⟩)
            go_roundw
            case rel => exact ⟨m + 1, _, _, by omega, by omega, by go_num, by go_num, HR', T9, K9'⟩
            case measure => simp [intOf]; omega
          · have hge' : ¬ (N : Int) ≤ (m : Int) + 1 := by omega
            have hge2 : decide ((N : Int) ≤ (m : Int) + 1) = false := decide_eq_false hge'
            rw [decide_eq_false hge] at hof1 hof2
            go_wp2_with first
              | (go_at_call_of 24 (Value.pointer (some (⟨d, 0, none⟩ : Addr))); refine hof1.mono ?_; rintro e w10 ⟨rfl, rfl⟩)
              | (go_at_call_of 24 (Value.pointer (some (⟨c, 0, none⟩ : Addr))); refine hof2.mono ?_; rintro e w10 ⟨rfl, rfl⟩)
            go_roundw
            case rel => exact ⟨m + 1, _, _, by omega, by omega, by go_num, by go_num, HR', T9, K9'⟩
            case measure => simp [intOf]; omega
      · have hmn' : ((m : Int) + 1 == (N : Int)) = false := by simp; omega
        have hah : ahead N m K9 Sc = Sc := if_neg hmn
        rw [hah] at gc
        clear hah
        by_cases hkk : kk = 4
        · subst hkk
          obtain ⟨es, R', od, oc⟩ := rel_sync R.out (by omega)
          rw [show ahead N m K9 Sc = Sc from if_neg hmn] at es R' oc
          have HR' := hid R'
          clear R'
          have hs1 := T6.out.syncL m R.out.good.1 (by omega)
          rw [es] at hs1
          clear es
          go_wp2_with (go_at_call_of 14 (Value.pointer (some (⟨d, 0, none⟩ : Addr))); refine hs1.mono ?_; rintro e w8 ⟨rfl, t8, k8⟩; have T8 := hid t8; have K8 := hid (K6.out.tr k8); clear t8 k8 hs1)
          have hs2 := T8.out.syncR m gc.out (by omega)
          generalize syncE Sc = z at *
          go_wp2_with (go_at_call_of 14 (Value.pointer (some (⟨c, 0, none⟩ : Addr))); refine hs2.mono ?_; rintro e w9 ⟨rfl, t9, k9⟩; have T9 := hid t9; have K9' := hid (K8.out.tr k9); clear t9 k9 hs2)
          have hof1 := off_any _ d _ w9 T9.out.fst
          have hof2 := off_any _ c _ w9 T9.out.symm.fst
          rw [od] at hof1
          rw [oc] at hof2
          clear od oc
          by_cases hge : N ≤ m + 1
          · have hge' : (N : Int) ≤ (m : Int) + 1 := by omega
            rw [decide_eq_true hge] at hof1 hof2
            go_wp2_with first
              | (go_at_call_of 24 (Value.pointer (some (⟨d, 0, none⟩ : Addr))); refine hof1.mono ?_; rintro e w10 ⟨rfl, rfl⟩)
              | (go_at_call_of 24 (Value.pointer (some (⟨c, 0, none⟩ : Addr))); refine hof2.mono ?_; rintro e w10 ⟨rfl, rfl⟩)
            go_roundw
            case rel => exact ⟨m + 1, _, _, by omega, by omega, by go_num, by go_num, HR', T9, K9'⟩
            case measure => simp [intOf]; omega
          · have hge' : ¬ (N : Int) ≤ (m : Int) + 1 := by omega
            have hge2 : decide ((N : Int) ≤ (m : Int) + 1) = false := decide_eq_false hge'
            rw [decide_eq_false hge] at hof1 hof2
            go_wp2_with first
              | (go_at_call_of 24 (Value.pointer (some (⟨d, 0, none⟩ : Addr))); refine hof1.mono ?_; rintro e w10 ⟨rfl, rfl⟩)
              | (go_at_call_of 24 (Value.pointer (some (⟨c, 0, none⟩ : Addr))); refine hof2.mono ?_; rintro e w10 ⟨rfl, rfl⟩)
            go_roundw
            case rel => exact ⟨m + 1, _, _, by omega, by omega, by go_num, by go_num, HR', T9, K9'⟩
            case measure => simp [intOf]; omega
        · have hkk' : (kk == 4) = false := by simpa using hkk
          obtain ⟨es, R', od, oc⟩ := rel_write R.out (by omega) rr D r0 r3 hD
          rw [show ahead N m K9 Sc = Sc from if_neg hmn] at es R' oc
          have HR' := hid R'
          clear R'
          have T7d := hid (T6.out.bel (Bel.dr (Below.refl _ _)))
          have p7d : w6.drew.cell? ⟨g, off + m * 4 + 1, none⟩ = some (.int .i64 A.at') := p1
          have hs1 := T7d.out.writeL m rr D R.out.good.1 (by omega)
          rw [es] at hs1
          clear es
          go_wp2_with fail
          go_region_held3 (fun w' => w'.cell? ⟨g, off + m * 4 + 1, none⟩ = some (.int .i64 A.at')) (go_keep)
            (first
              | (go_at_call_of 13 (Value.pointer (some (⟨d, 0, none⟩ : Addr))); refine hs1.mono ?_; rintro e w8 ⟨rfl, t8, k8⟩; have T8 := hid t8; have K8 := hid (K6.out.dr.tr k8); have p8 := (k8.cell (p := ⟨g, off + m * 4 + 1, none⟩) (.inl hgl)).trans p7d; have hs2 := T8.out.writeR m rr D gc.out (by omega); clear t8 k8 hs1)
              | (go_at_call_of 13 (Value.pointer (some (⟨c, 0, none⟩ : Addr))); refine hs2.mono ?_; rintro e w9 ⟨rfl, t9, k9⟩; have T9 := hid t9; have K9' := hid (K8.out.tr k9); have p9 := (k9.cell (p := ⟨g, off + m * 4 + 1, none⟩) (.inl hgl)).trans p8; clear t9 k9 hs2))
          have hof1 := off_any _ d _ w9 T9.out.fst
          have hof2 := off_any _ c _ w9 T9.out.symm.fst
          rw [od] at hof1
          rw [oc] at hof2
          clear od oc
          by_cases hge : N ≤ m + 1
          · have hge' : (N : Int) ≤ (m : Int) + 1 := by omega
            rw [decide_eq_true hge] at hof1 hof2
            go_wp2_with first
              | (go_at_call_of 24 (Value.pointer (some (⟨d, 0, none⟩ : Addr))); refine hof1.mono ?_; rintro e w10 ⟨rfl, rfl⟩)
              | (go_at_call_of 24 (Value.pointer (some (⟨c, 0, none⟩ : Addr))); refine hof2.mono ?_; rintro e w10 ⟨rfl, rfl⟩)
            go_roundw
            case rel => exact ⟨m + 1, _, _, by omega, by omega, by go_num, by go_num, HR', T9, K9'⟩
            case measure => simp [intOf]; omega
          · have hge' : ¬ (N : Int) ≤ (m : Int) + 1 := by omega
            have hge2 : decide ((N : Int) ≤ (m : Int) + 1) = false := decide_eq_false hge'
            rw [decide_eq_false hge] at hof1 hof2
            go_wp2_with first
              | (go_at_call_of 24 (Value.pointer (some (⟨d, 0, none⟩ : Addr))); refine hof1.mono ?_; rintro e w10 ⟨rfl, rfl⟩)
              | (go_at_call_of 24 (Value.pointer (some (⟨c, 0, none⟩ : Addr))); refine hof2.mono ?_; rintro e w10 ⟨rfl, rfl⟩)
            go_roundw
            case rel => exact ⟨m + 1, _, _, by omega, by omega, by go_num, by go_num, HR', T9, K9'⟩
            case measure => simp [intOf]; omega
    · by_cases hlL : m < L.length
      · obtain rfl : m = 30 := by omega
        have hlm : ((30 : Nat) : Int) < (L.length : Int) := by omega
        unfold maxLen at hL
        go_wp2_with first
          | (go_at_call_of 20 (Value.pointer (some (⟨d, 0, none⟩ : Addr))); refine T.out.onL.mono ?_; rintro e w6 ⟨rfl, t6, k6⟩; have T6 := hid t6; have K6 := hid (KK.out.tr k6); clear t6 k6)
          | (go_at_call_of 20 (Value.pointer (some (⟨c, 0, none⟩ : Addr))); refine T6.out.onR.mono ?_; rintro e w7 ⟨rfl, t7, k7⟩; have T7 := hid t7; have K7 := hid (K6.out.tr k7); clear t7 k7)
        go_loopw [16] (fun i wr => ∃ q : Nat, q ≤ 4 ∧ i = .int .i64 q ∧ Hid (Two (fun j => j < w.heap.size ∨ (w3.heap.size ≤ j ∧ j < w4.heap.size)) wr d (on Sd) c (on Sc)) ∧ Hid (Keep (fun j => j < w.heap.size ∨ (w3.heap.size ≤ j ∧ j < w4.heap.size)) w4 wr)) (fun i _ => 4 - (intOf i).toNat)
        case atStart => exact ⟨0, by omega, rfl, T7, K7⟩
        case round =>
          clear T KK T6 K6 T7 K7 T5 K5
          obtain ⟨q, hq, rfl, H, KH⟩ := hrel
          by_cases hq4 : q < 4
          · have hr1 := read_any _ d (on Sd) 30 q _ H.out.fst R.out.good.1.on
            obtain ⟨er, ec⟩ := rel_reads R.out (q : Int)
            rw [er, ec] at hr1
            obtain ⟨Z, hZ⟩ : ∃ Z, Hid (read (on Sc) (q : Int) = Z) := ⟨_, rfl⟩
            obtain ⟨y, hy⟩ : ∃ y, Hid (check (on Sc) (q : Int) = y) := ⟨_, rfl⟩
            rw [hZ.out, hy.out] at hr1
            clear er ec
            go_wp2_with (go_at_call_of 19 (Value.pointer (some (⟨d, 0, none⟩ : Addr))); refine hr1.mono ?_; rintro e w8 ⟨rfl, b8⟩; have H8 := hid (H.out.bel b8); have K8 := hid (KH.out.tr (Keep.of_bel b8 H.out.fst.lt)); clear b8 hr1)
            have hr2 := read_any _ c (on Sc) 30 q _ H8.out.symm.fst R.out.good.2.on
            rw [hZ.out, hy.out] at hr2
            go_wp2_with (go_at_call_of 19 (Value.pointer (some (⟨c, 0, none⟩ : Addr))); refine hr2.mono ?_; rintro e w9 ⟨rfl, b9⟩; have H9 := hid (H8.out.bel b9); have K9' := hid (K8.out.tr (Keep.of_bel b9 H8.out.fst.lt)); clear b9 hr2)
            go_roundw
            case rel => exact ⟨q + 1, by omega, by go_num, H9, K9'⟩
            case measure => simp [intOf]; omega
          · obtain rfl : q = 4 := by omega
            go_wp2_with fail
            go_ret
            exact ⟨rfl, ((Keep.of_bel (B3.out.tr B4.out) (fun _ h => h)).tr (KH.out.weak (fun k (h : k < w.heap.size) => .inl h))).below⟩
      · have hlm : ¬ ((m : Int) < (L.length : Int)) := by omega
        have hlm2 : decide ((m : Int) < (L.length : Int)) = false := decide_eq_false hlm
        unfold maxLen at hL
        go_wp2_with first
          | (go_at_call_of 20 (Value.pointer (some (⟨d, 0, none⟩ : Addr))); refine T.out.onL.mono ?_; rintro e w6 ⟨rfl, t6, k6⟩; have T6 := hid t6; have K6 := hid (KK.out.tr k6); clear t6 k6)
          | (go_at_call_of 20 (Value.pointer (some (⟨c, 0, none⟩ : Addr))); refine T6.out.onR.mono ?_; rintro e w7 ⟨rfl, t7, k7⟩; have T7 := hid t7; have K7 := hid (K6.out.tr k7); clear t7 k7)
        go_loopw [16] (fun i wr => ∃ q : Nat, q ≤ 4 ∧ i = .int .i64 q ∧ Hid (Two (fun j => j < w.heap.size ∨ (w3.heap.size ≤ j ∧ j < w4.heap.size)) wr d (on Sd) c (on Sc)) ∧ Hid (Keep (fun j => j < w.heap.size ∨ (w3.heap.size ≤ j ∧ j < w4.heap.size)) w4 wr)) (fun i _ => 4 - (intOf i).toNat)
        case atStart => exact ⟨0, by omega, rfl, T7, K7⟩
        case round =>
          clear T KK T6 K6 T7 K7 T5 K5
          obtain ⟨q, hq, rfl, H, KH⟩ := hrel
          by_cases hq4 : q < 4
          · have hr1 := read_any _ d (on Sd) m q _ H.out.fst R.out.good.1.on
            obtain ⟨er, ec⟩ := rel_reads R.out (q : Int)
            rw [er, ec] at hr1
            obtain ⟨Z, hZ⟩ : ∃ Z, Hid (read (on Sc) (q : Int) = Z) := ⟨_, rfl⟩
            obtain ⟨y, hy⟩ : ∃ y, Hid (check (on Sc) (q : Int) = y) := ⟨_, rfl⟩
            rw [hZ.out, hy.out] at hr1
            clear er ec
            go_wp2_with (go_at_call_of 19 (Value.pointer (some (⟨d, 0, none⟩ : Addr))); refine hr1.mono ?_; rintro e w8 ⟨rfl, b8⟩; have H8 := hid (H.out.bel b8); have K8 := hid (KH.out.tr (Keep.of_bel b8 H.out.fst.lt)); clear b8 hr1)
            have hr2 := read_any _ c (on Sc) m q _ H8.out.symm.fst R.out.good.2.on
            rw [hZ.out, hy.out] at hr2
            go_wp2_with (go_at_call_of 19 (Value.pointer (some (⟨c, 0, none⟩ : Addr))); refine hr2.mono ?_; rintro e w9 ⟨rfl, b9⟩; have H9 := hid (H8.out.bel b9); have K9' := hid (K8.out.tr (Keep.of_bel b9 H8.out.fst.lt)); clear b9 hr2)
            go_roundw
            case rel => exact ⟨q + 1, by omega, by go_num, H9, K9'⟩
            case measure => simp [intOf]; omega
          · obtain rfl : q = 4 := by omega
            go_wp2_with fail
            go_ret
            exact ⟨rfl, ((Keep.of_bel (B3.out.tr B4.out) (fun _ h => h)).tr (KH.out.weak (fun k (h : k < w.heap.size) => .inl h))).below⟩
end Go.Proofs.Ytoelaemneoabfaa
