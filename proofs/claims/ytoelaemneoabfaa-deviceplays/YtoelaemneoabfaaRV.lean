/-
  The law DevicePlays, walked.
-/
import Derived.Test.YtoelaemneoabfaaRU
namespace Go.Proofs.Ytoelaemneoabfaa
open Go.RowKit
set_option maxRecDepth 100000

theorem wf_le {i : Int} (h : (Lit.int .i64 i).wf = true) : i ≤ 9223372036854775807 := by
  simp only [Lit.wf] at h
  have e1 : IntKind.max .i64 = 9223372036854775807 := by decide
  rw [e1] at h
  simp at h
  omega
theorem readsN_bel {w w' : World} {kv : Value} {K : List Int} (h : ReadsN w kv K) (k : Bel w w') : ReadsN w' kv K := by
  obtain ⟨a, cap, rfl, h⟩ := h
  refine ⟨a, cap, rfl, h.imp id ?_⟩
  rintro ⟨g, off, rfl, hc⟩
  exact ⟨g, off, rfl, fun j hj => (bel_cell k (block_lt_of_cell (hc j hj)) _).trans (hc j hj)⟩
def elder : M.Tx := [101, 108, 100, 101, 114]
theorem i64_mask7 (n : Int) : bits .and .i64 n 7 = n % 8 := i64_mask n 3 (by omega)
set_option maxHeartbeats 2000000 in
theorem plays_out (L : List Act) (a : Option Addr) (cap : Nat) (n : Int) (w : World) (hn : n < 1 ∨ 4096 < n) :
    Calls Try.prog 3 #[.int .i64 n, .slice a L.length cap] w fun e w' => e = .returned (.bool true) ∧ Bel w w' := by
  have hnew := fun W => new_none n W hn
  have q0 : decide (8 < n ∧ n ≤ 4096) = false := decide_eq_false (by omega)
  rcases hn with hn | hn
  · have q1 : decide (8 < n) = false := decide_eq_false (by omega)
    have q2 : decide (n < 1) = true := decide_eq_true hn
    go_enter Try.func3, Try.ntmps3
    go_wp2_with (first
      | (go_at_call 8; refine (speaks_any _).mono ?_; rintro e w1 ⟨rfl, hb⟩)
      | (go_at_call 9; refine (hnew _).mono ?_; rintro e w2 ⟨rfl, hb2⟩))
    go_ret
    exact ⟨rfl, hb.tr hb2⟩
  · have q1 : decide (8 < n) = true := decide_eq_true (by omega)
    have q3 : decide (n ≤ 4096) = false := decide_eq_false (by omega)
    have q2 : decide (n < 1) = false := decide_eq_false (by omega)
    have q4 : decide (4096 < n) = true := decide_eq_true hn
    go_enter Try.func3, Try.ntmps3
    go_wp2_with (first
      | (go_at_call 8; refine (speaks_any _).mono ?_; rintro e w1 ⟨rfl, hb⟩)
      | (go_at_call 9; refine (hnew _).mono ?_; rintro e w2 ⟨rfl, hb2⟩))
    go_ret
    exact ⟨rfl, hb.tr hb2⟩
set_option maxHeartbeats 8000000 in
theorem plays_mid (L : List Act) (a : Option Addr) (cap : Nat) (n : Int) (w : World) (hL : L.length ≤ maxLen) (hs : ShowsA w a L) (h1 : 8 < n) (h2 : n ≤ 4096) :
    Calls Try.prog 3 #[.int .i64 n, .slice a L.length cap] w fun e w' => e = .returned (.bool true) ∧ Bel w w' := by
  have hr := i64_mask7 n
  have h0 : 0 ≤ n % 8 := by omega
  have h3 : n % 8 ≤ 7 := by omega
  generalize n % 8 = r at *
  have q1 : decide (8 < n) = true := decide_eq_true h1
  have q2 : decide (n ≤ 4096) = true := decide_eq_true h2
  have HS := hid hs
  clear hs
  unfold maxLen at hL
  go_enter Try.func3, Try.ntmps3
  go_wp2_with (go_at_call 8; refine (speaks_any _).mono ?_; rintro e w1 ⟨rfl, hb⟩)
  obtain ⟨nn, hnn⟩ : ∃ nn : Nat, 1 + r = (nn : Int) := ⟨(1 + r).toNat, by omega⟩
  rw [hnn]
  have hn1 : 1 ≤ nn := by omega
  have hn2 : nn ≤ 8 := by omega
  clear hr h0 h3 hnn q1 q2
  refine (new_any _ _ (by omega) (by omega)).mono ?_
  rintro e w2 ⟨d, rfl, hd, b2⟩
  have B2 : Hid (Bel w w2) := hb.tr b2
  have HD : Hid (Dev (fun k => k < w.heap.size) w2 d (new (nn : Nat))) := hd.weak (fun k (hk : k < w.heap.size) => by
    show k < w1.heap.size
    have := hb.size
    omega)
  clear hd b2 hb
  go_wp2_with (go_at_call 10; refine (rNew_any nn _ (by omega)).mono ?_; rintro e w3 ⟨v, rfl, b3, o3⟩; obtain ⟨av, cv, rfl⟩ := row_form o3; have B3 := hid b3; have O3 := hid o3; clear b3 o3)
  have HP : Hid (PB w (w3.alloc (.cells #[.slice av nn cv, .slice none 0 0, .slice none 0 0, .bool false, .int .i64 0, .slice none 0 0, .int .i64 0] 31)) d (new nn) w3.heap.size (rNew nn)) := PB.start HD.out B2.out _ O3.out B3.out _ (Blk.new _ _ _) (Bel.al (Below.refl _ _) _)
  clear HD B2 B3 O3
  generalize w3.alloc (.cells #[.slice av nn cv, .slice none 0 0, .slice none 0 0, .bool false, .int .i64 0, .slice none 0 0, .int .i64 0] 31) = W4 at *
  generalize w3.heap.size = b at *
  go_loopw [5, 8] (fun dv iv wr => ∃ (m d : Nat) (S : St) (R : Rf), m ≤ L.length ∧ m ≤ 50 ∧ dv = .pointer (some ⟨d, 0, none⟩) ∧ iv = .int .i64 m ∧ Hid (Good m S) ∧ Hid (GoodR m R) ∧ Hid (Sim S R) ∧ Hid (PB w wr d S b R)) (fun _ iv _ => 50 - (intOf iv).toNat)
  case atStart => exact ⟨0, d, _, _, by omega, by omega, rfl, rfl, good_new _ (by omega) (by omega), goodR_new nn hn1 (by omega), sim_new nn, HP⟩
  case round =>
    obtain ⟨m, d, S, R, hm, hm50, rfl, rfl, G, GR, HSim, HPB⟩ := hrel
    by_cases hlt : m < L.length ∧ m < 50
    · obtain ⟨hlt, hlt50⟩ := hlt
      obtain ⟨g, off, rfl, hrow⟩ : ∃ g off, a = some ⟨g, off, none⟩ ∧ RowA w g off L := by
        rcases HS.out with h | h
        · subst h; simp at hlt
        · exact h
      obtain ⟨q0, q1, q2, q3, q4, q5, q6, q7, q8, ka', kc', q9, q10⟩ := hrow m hlt
      have hgl := block_lt_of_cell q0
      have hwf := wf_le q6
      have HCELL : Hid (∀ W, Bel w W → W.cell? ⟨g, off + m * 4, none⟩ = some (.int .i64 L[m].what) ∧ W.cell? ⟨g, off + m * 4 + 1, none⟩ = some (.int .i64 L[m].at') ∧ W.cell? ⟨g, off + m * 4 + 2, none⟩ = some (.string (M.bs L[m].data)) ∧ W.cell? ⟨g, off + m * 4 + 3, none⟩ = some (.slice ka' L[m].keep.length kc') ∧ ReadsN W (.slice ka' L[m].keep.length kc') L[m].keep) := fun W k => by
        rw [q9] at q3 q4
        exact ⟨(bel_cell k hgl _).trans q0, (bel_cell k hgl _).trans q1, (bel_cell k hgl _).trans q2, (bel_cell k hgl _).trans q3, readsN_bel q4 k⟩
      have hlm : (m : Int) < (L.length : Int) := by omega
      have hlm' : (m : Int) < 50 := by omega
      obtain ⟨z0, z1, z2, z3, _⟩ := HCELL.out wr HPB.out.below
      clear hrow q0 q1 q2 q3 q4 q5 q6 q9
      generalize L[m] = A at *
      have G' : Hid (Good (m + 1) (doS (kindI A.what) S A.at' (A.data.take 300) (A.keep.take 9))) := G.out.act (by omega) _ _ _ _ hwf (by rw [List.length_take]; omega)
      have GR' : Hid (GoodR (m + 1) (doR (kindI A.what) R A.at' (A.data.take 300) (A.keep.take 9))) := GR.out.act (by omega) _ _ _ _ hwf (by rw [List.length_take]; omega)
      have HA := hid (HSim.out.act G.out (kindI A.what) A.at' (A.data.take 300) (A.keep.take 9))
      have HA' := hid HA.out.1
      go_wp2_with fail
      refine (kind_any _ _ _ _ _ _ _ rfl _).mono ?_
      rintro e w5 ⟨rfl, k5⟩
      have P5 := hid (HPB.out.bel k5)
      clear z0 z1 z2 z3 k5 HPB
      by_cases k8 : kindI A.what = 8
      · have n8 : (kindI A.what == 8) = true := by simp [k8]
        obtain ⟨X, hX, hback⟩ := P5.out.dev
        have HB := hid hback
        have HX := hid hX
        clear hX hback
        go_wp2_with (go_at_call 12; refine (copy_any X d S m w5 HX.out G.out).mono ?_; rintro e w6 ⟨c, rfl, hc, k6⟩; have T6 : Hid (Two X w6 d S c S) := Two.new HX.out k6 hc; have K6 : Hid (Keep X w5 w6) := Keep.of_bel k6 HX.out.lt; clear hc k6)
        have C7 := hid (T6.out.writeR m 0 elder G.out (by omega))
        go_wp2_with (go_at_call 13; refine C7.out.mono ?_; rintro e w7 ⟨rfl, t7, k7⟩; have T7 := hid t7; have K7 := hid (K6.out.tr k7); clear t7 k7)
        have C8 := hid (T7.out.syncR (m + 1) (G.out.write (by omega) 0 elder) (by omega))
        go_wp2_with (go_at_call 14; refine C8.out.mono ?_; rintro e w8 ⟨rfl, t8, k8'⟩; have T8 := hid t8.fst; have K8 := hid (K7.out.tr k8'); clear t8 k8')
        clear C7 C8 T6 T7 K6 K7
        have C9 := hid (copy_any X d S m w8 T8.out G.out)
        go_wp2_with (go_at_call 12; refine C9.out.mono ?_; rintro e w9 ⟨d9, rfl, hc, k9⟩; have T9 : Hid (Two X w9 d S d9 S) := Two.new T8.out k9 hc; have K9 : Hid (Keep X w5 w9) := K8.out.tr (Keep.of_bel k9 T8.out.lt); clear hc k9)
        have C10 := hid (T9.out.writeL m 0 elder G.out (by omega))
        go_wp2_with (go_at_call 13; refine C10.out.mono ?_; rintro e w10 ⟨rfl, t10, k10⟩; have T10 := hid (t10.bel (Bel.al (Below.refl _ _) (.cells #[.int .i64 1] 3))); have K10 := hid ((K9.out.tr k10).tr (Keep.of_bel (Bel.al (Below.refl _ _) (.cells #[.int .i64 1] 3)) t10.fst.lt)); clear t10 k10)
        have C11 := hid (T10.out.blowL (m + 1) [1] (.slice (some ⟨w10.heap.size, 0, none⟩) 1 1) (G.out.write (by omega) 0 elder) (one_new w10 1) (by simp))
        go_wp2_with (go_at_call 15; refine C11.out.mono ?_; rintro e w11 ⟨rfl, t11, k11⟩; have P11 := hid (HB.out w11 S d9 t11.symm.fst (K10.out.tr k11)); clear t11 k11; obtain ⟨x0, x1, x2, x3, _⟩ := HCELL.out w11 P11.out.below)
        clear C9 C10 C11 T8 T9 T10 K8 K9 K10 HB HX P5
        have HD1 := hid (P11.out.do_ m A.what A.at' A.data ka' kc' A.keep G.out (by omega) (HCELL.out w11 P11.out.below).2.2.2.2 q10 q8 q7)
        obtain ⟨x0, x1, x2, x3, _⟩ := HCELL.out w11 P11.out.below
        go_wp2_with (first
          | (go_at_call 16; refine HD1.out.mono ?_; rintro e w16 ⟨rfl, p16, k16⟩; obtain ⟨y0, y1, y2, y3, y4⟩ := HCELL.out w16 p16.below; have hd2 := p16.done_ m A.what A.at' A.data ka' kc' A.keep GR.out (by omega) y4 q10 q8 q7; rw [HA.out.2.1, HA.out.2.2] at hd2; have HD2 := hid hd2; clear hd2 p16 k16 y4)
          | (go_at_call 17; refine HD2.out.mono ?_; rintro e w17 ⟨rfl, p17, k17⟩; have HD3 := hid (p17.same_ (m + 1) HA.out.1 G'.out GR'.out); clear p17 k17)
          | (go_at_call 18; refine HD3.out.mono ?_; rintro e w18 ⟨rfl, p18, k18⟩; have P18 := hid p18; clear p18 k18))
        go_roundw
        case rel => exact ⟨m + 1, d9, _, _, by omega, by omega, rfl, by go_num, G', GR', HA', P18⟩
        case measure => simp [intOf]; omega
      · have n8 : (kindI A.what == 8) = false := by simpa using k8
        have HD1 := hid (P5.out.do_ m A.what A.at' A.data ka' kc' A.keep G.out (by omega) (HCELL.out w5 P5.out.below).2.2.2.2 q10 q8 q7)
        obtain ⟨x0, x1, x2, x3, _⟩ := HCELL.out w5 P5.out.below
        go_wp2_with (first
          | (go_at_call 16; refine HD1.out.mono ?_; rintro e w16 ⟨rfl, p16, k16⟩; obtain ⟨y0, y1, y2, y3, y4⟩ := HCELL.out w16 p16.below; have hd2 := p16.done_ m A.what A.at' A.data ka' kc' A.keep GR.out (by omega) y4 q10 q8 q7; rw [HA.out.2.1, HA.out.2.2] at hd2; have HD2 := hid hd2; clear hd2 p16 k16 y4)
          | (go_at_call 17; refine HD2.out.mono ?_; rintro e w17 ⟨rfl, p17, k17⟩; have HD3 := hid (p17.same_ (m + 1) HA.out.1 G'.out GR'.out); clear p17 k17)
          | (go_at_call 18; refine HD3.out.mono ?_; rintro e w18 ⟨rfl, p18, k18⟩; have P18 := hid p18; clear p18 k18))
        go_roundw
        case rel => exact ⟨m + 1, d, _, _, by omega, by omega, rfl, by go_num, G', GR', HA', P18⟩
        case measure => simp [intOf]; omega
    · by_cases hl : m < L.length
      · obtain rfl : m = 50 := by omega
        have hlm : ((50 : Nat) : Int) < (L.length : Int) := by omega
        go_wp2_with fail
        go_ret
        exact ⟨rfl, HPB.out.below⟩
      · obtain rfl : m = L.length := by omega
        go_wp2_with fail
        go_ret
        exact ⟨rfl, HPB.out.below⟩
set_option maxHeartbeats 8000000 in
theorem plays_small (L : List Act) (a : Option Addr) (cap : Nat) (n : Int) (w : World) (hL : L.length ≤ maxLen) (hs : ShowsA w a L) (h1 : 1 ≤ n) (h2 : n ≤ 8) :
    Calls Try.prog 3 #[.int .i64 n, .slice a L.length cap] w fun e w' => e = .returned (.bool true) ∧ Bel w w' := by
  obtain ⟨nn, rfl⟩ : ∃ nn : Nat, n = (nn : Int) := ⟨n.toNat, by omega⟩
  have hn1 : 1 ≤ nn := by omega
  have hn2 : nn ≤ 8 := by omega
  have q1 : decide ((8 : Int) < (nn : Int)) = false := decide_eq_false (by omega)
  have HS := hid hs
  clear hs
  unfold maxLen at hL
  go_enter Try.func3, Try.ntmps3
  go_wp2_with (go_at_call 8; refine (speaks_any _).mono ?_; rintro e w1 ⟨rfl, hb⟩)
  clear q1
  refine (new_any _ _ (by omega) (by omega)).mono ?_
  rintro e w2 ⟨d, rfl, hd, b2⟩
  have B2 : Hid (Bel w w2) := hb.tr b2
  have HD : Hid (Dev (fun k => k < w.heap.size) w2 d (new (nn : Nat))) := hd.weak (fun k (hk : k < w.heap.size) => by
    show k < w1.heap.size
    have := hb.size
    omega)
  clear hd b2 hb
  go_wp2_with (go_at_call 10; refine (rNew_any nn _ (by omega)).mono ?_; rintro e w3 ⟨v, rfl, b3, o3⟩; obtain ⟨av, cv, rfl⟩ := row_form o3; have B3 := hid b3; have O3 := hid o3; clear b3 o3)
  have HP : Hid (PB w (w3.alloc (.cells #[.slice av nn cv, .slice none 0 0, .slice none 0 0, .bool false, .int .i64 0, .slice none 0 0, .int .i64 0] 31)) d (new nn) w3.heap.size (rNew nn)) := PB.start HD.out B2.out _ O3.out B3.out _ (Blk.new _ _ _) (Bel.al (Below.refl _ _) _)
  clear HD B2 B3 O3
  generalize w3.alloc (.cells #[.slice av nn cv, .slice none 0 0, .slice none 0 0, .bool false, .int .i64 0, .slice none 0 0, .int .i64 0] 31) = W4 at *
  generalize w3.heap.size = b at *
  go_loopw [5, 8] (fun dv iv wr => ∃ (m d : Nat) (S : St) (R : Rf), m ≤ L.length ∧ m ≤ 50 ∧ dv = .pointer (some ⟨d, 0, none⟩) ∧ iv = .int .i64 m ∧ Hid (Good m S) ∧ Hid (GoodR m R) ∧ Hid (Sim S R) ∧ Hid (PB w wr d S b R)) (fun _ iv _ => 50 - (intOf iv).toNat)
  case atStart => exact ⟨0, d, _, _, by omega, by omega, rfl, rfl, good_new _ (by omega) (by omega), goodR_new nn hn1 (by omega), sim_new nn, HP⟩
  case round =>
    obtain ⟨m, d, S, R, hm, hm50, rfl, rfl, G, GR, HSim, HPB⟩ := hrel
    by_cases hlt : m < L.length ∧ m < 50
    · obtain ⟨hlt, hlt50⟩ := hlt
      obtain ⟨g, off, rfl, hrow⟩ : ∃ g off, a = some ⟨g, off, none⟩ ∧ RowA w g off L := by
        rcases HS.out with h | h
        · subst h; simp at hlt
        · exact h
      obtain ⟨q0, q1, q2, q3, q4, q5, q6, q7, q8, ka', kc', q9, q10⟩ := hrow m hlt
      have hgl := block_lt_of_cell q0
      have hwf := wf_le q6
      have HCELL : Hid (∀ W, Bel w W → W.cell? ⟨g, off + m * 4, none⟩ = some (.int .i64 L[m].what) ∧ W.cell? ⟨g, off + m * 4 + 1, none⟩ = some (.int .i64 L[m].at') ∧ W.cell? ⟨g, off + m * 4 + 2, none⟩ = some (.string (M.bs L[m].data)) ∧ W.cell? ⟨g, off + m * 4 + 3, none⟩ = some (.slice ka' L[m].keep.length kc') ∧ ReadsN W (.slice ka' L[m].keep.length kc') L[m].keep) := fun W k => by
        rw [q9] at q3 q4
        exact ⟨(bel_cell k hgl _).trans q0, (bel_cell k hgl _).trans q1, (bel_cell k hgl _).trans q2, (bel_cell k hgl _).trans q3, readsN_bel q4 k⟩
      have hlm : (m : Int) < (L.length : Int) := by omega
      have hlm' : (m : Int) < 50 := by omega
      obtain ⟨z0, z1, z2, z3, _⟩ := HCELL.out wr HPB.out.below
      clear hrow q0 q1 q2 q3 q4 q5 q6 q9
      generalize L[m] = A at *
      have G' : Hid (Good (m + 1) (doS (kindI A.what) S A.at' (A.data.take 300) (A.keep.take 9))) := G.out.act (by omega) _ _ _ _ hwf (by rw [List.length_take]; omega)
      have GR' : Hid (GoodR (m + 1) (doR (kindI A.what) R A.at' (A.data.take 300) (A.keep.take 9))) := GR.out.act (by omega) _ _ _ _ hwf (by rw [List.length_take]; omega)
      have HA := hid (HSim.out.act G.out (kindI A.what) A.at' (A.data.take 300) (A.keep.take 9))
      have HA' := hid HA.out.1
      go_wp2_with fail
      refine (kind_any _ _ _ _ _ _ _ rfl _).mono ?_
      rintro e w5 ⟨rfl, k5⟩
      have P5 := hid (HPB.out.bel k5)
      clear z0 z1 z2 z3 k5 HPB
      by_cases k8 : kindI A.what = 8
      · have n8 : (kindI A.what == 8) = true := by simp [k8]
        obtain ⟨X, hX, hback⟩ := P5.out.dev
        have HB := hid hback
        have HX := hid hX
        clear hX hback
        go_wp2_with (go_at_call 12; refine (copy_any X d S m w5 HX.out G.out).mono ?_; rintro e w6 ⟨c, rfl, hc, k6⟩; have T6 : Hid (Two X w6 d S c S) := Two.new HX.out k6 hc; have K6 : Hid (Keep X w5 w6) := Keep.of_bel k6 HX.out.lt; clear hc k6)
        have C7 := hid (T6.out.writeR m 0 elder G.out (by omega))
        go_wp2_with (go_at_call 13; refine C7.out.mono ?_; rintro e w7 ⟨rfl, t7, k7⟩; have T7 := hid t7; have K7 := hid (K6.out.tr k7); clear t7 k7)
        have C8 := hid (T7.out.syncR (m + 1) (G.out.write (by omega) 0 elder) (by omega))
        go_wp2_with (go_at_call 14; refine C8.out.mono ?_; rintro e w8 ⟨rfl, t8, k8'⟩; have T8 := hid t8.fst; have K8 := hid (K7.out.tr k8'); clear t8 k8')
        clear C7 C8 T6 T7 K6 K7
        have C9 := hid (copy_any X d S m w8 T8.out G.out)
        go_wp2_with (go_at_call 12; refine C9.out.mono ?_; rintro e w9 ⟨d9, rfl, hc, k9⟩; have T9 : Hid (Two X w9 d S d9 S) := Two.new T8.out k9 hc; have K9 : Hid (Keep X w5 w9) := K8.out.tr (Keep.of_bel k9 T8.out.lt); clear hc k9)
        have C10 := hid (T9.out.writeL m 0 elder G.out (by omega))
        go_wp2_with (go_at_call 13; refine C10.out.mono ?_; rintro e w10 ⟨rfl, t10, k10⟩; have T10 := hid (t10.bel (Bel.al (Below.refl _ _) (.cells #[.int .i64 1] 3))); have K10 := hid ((K9.out.tr k10).tr (Keep.of_bel (Bel.al (Below.refl _ _) (.cells #[.int .i64 1] 3)) t10.fst.lt)); clear t10 k10)
        have C11 := hid (T10.out.blowL (m + 1) [1] (.slice (some ⟨w10.heap.size, 0, none⟩) 1 1) (G.out.write (by omega) 0 elder) (one_new w10 1) (by simp))
        go_wp2_with (go_at_call 15; refine C11.out.mono ?_; rintro e w11 ⟨rfl, t11, k11⟩; have P11 := hid (HB.out w11 S d9 t11.symm.fst (K10.out.tr k11)); clear t11 k11; obtain ⟨x0, x1, x2, x3, _⟩ := HCELL.out w11 P11.out.below)
        clear C9 C10 C11 T8 T9 T10 K8 K9 K10 HB HX P5
        have HD1 := hid (P11.out.do_ m A.what A.at' A.data ka' kc' A.keep G.out (by omega) (HCELL.out w11 P11.out.below).2.2.2.2 q10 q8 q7)
        obtain ⟨x0, x1, x2, x3, _⟩ := HCELL.out w11 P11.out.below
        go_wp2_with (first
          | (go_at_call 16; refine HD1.out.mono ?_; rintro e w16 ⟨rfl, p16, k16⟩; obtain ⟨y0, y1, y2, y3, y4⟩ := HCELL.out w16 p16.below; have hd2 := p16.done_ m A.what A.at' A.data ka' kc' A.keep GR.out (by omega) y4 q10 q8 q7; rw [HA.out.2.1, HA.out.2.2] at hd2; have HD2 := hid hd2; clear hd2 p16 k16 y4)
          | (go_at_call 17; refine HD2.out.mono ?_; rintro e w17 ⟨rfl, p17, k17⟩; have HD3 := hid (p17.same_ (m + 1) HA.out.1 G'.out GR'.out); clear p17 k17)
          | (go_at_call 18; refine HD3.out.mono ?_; rintro e w18 ⟨rfl, p18, k18⟩; have P18 := hid p18; clear p18 k18))
        go_roundw
        case rel => exact ⟨m + 1, d9, _, _, by omega, by omega, rfl, by go_num, G', GR', HA', P18⟩
        case measure => simp [intOf]; omega
      · have n8 : (kindI A.what == 8) = false := by simpa using k8
        have HD1 := hid (P5.out.do_ m A.what A.at' A.data ka' kc' A.keep G.out (by omega) (HCELL.out w5 P5.out.below).2.2.2.2 q10 q8 q7)
        obtain ⟨x0, x1, x2, x3, _⟩ := HCELL.out w5 P5.out.below
        go_wp2_with (first
          | (go_at_call 16; refine HD1.out.mono ?_; rintro e w16 ⟨rfl, p16, k16⟩; obtain ⟨y0, y1, y2, y3, y4⟩ := HCELL.out w16 p16.below; have hd2 := p16.done_ m A.what A.at' A.data ka' kc' A.keep GR.out (by omega) y4 q10 q8 q7; rw [HA.out.2.1, HA.out.2.2] at hd2; have HD2 := hid hd2; clear hd2 p16 k16 y4)
          | (go_at_call 17; refine HD2.out.mono ?_; rintro e w17 ⟨rfl, p17, k17⟩; have HD3 := hid (p17.same_ (m + 1) HA.out.1 G'.out GR'.out); clear p17 k17)
          | (go_at_call 18; refine HD3.out.mono ?_; rintro e w18 ⟨rfl, p18, k18⟩; have P18 := hid p18; clear p18 k18))
        go_roundw
        case rel => exact ⟨m + 1, d, _, _, by omega, by omega, rfl, by go_num, G', GR', HA', P18⟩
        case measure => simp [intOf]; omega
    · by_cases hl : m < L.length
      · obtain rfl : m = 50 := by omega
        have hlm : ((50 : Nat) : Int) < (L.length : Int) := by omega
        go_wp2_with fail
        go_ret
        exact ⟨rfl, HPB.out.below⟩
      · obtain rfl : m = L.length := by omega
        go_wp2_with fail
        go_ret
        exact ⟨rfl, HPB.out.below⟩
theorem plays_any (L : List Act) (a : Option Addr) (cap : Nat) (n : Int) (w : World) (hL : L.length ≤ maxLen) (hs : ShowsA w a L) :
    Calls Try.prog 3 #[.int .i64 n, .slice a L.length cap] w fun e w' => e = .returned (.bool true) ∧ Bel w w' := by
  by_cases h1 : n < 1 ∨ 4096 < n
  · exact plays_out L a cap n w h1
  · by_cases h2 : 8 < n
    · exact plays_mid L a cap n w hL hs h2 (by omega)
    · exact plays_small L a cap n w hL hs (by omega) (by omega)
end Go.Proofs.Ytoelaemneoabfaa
