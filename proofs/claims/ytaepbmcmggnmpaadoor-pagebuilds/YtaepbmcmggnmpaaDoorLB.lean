/-
  The law PageBuilds, walked.
-/
import Derived.Test.YtaepbmcmggnmpaaDoorSB
import Derived.Test.YtaepbmcmggnmpaaDoorRT
import Derived.Test.YtaepbmcmggnmpaaDoorI
namespace Go.Proofs.YtaepbmcmggnmpaaDoor
open Go.RowKit
set_option maxRecDepth 100000

theorem M.build_some (lsn : Int) (b : List UInt8) (h : M.btw 0 lsn 281474976710655 = true) (hb : b.length = 496) : M.build lsn b ≠ [] := fun e => by
  have := (M.build_parts lsn b h hb).1
  rw [e] at this
  cases this
theorem M.decode_of_build (p : M.Pg) (lsn : Int) (h : (M.encode p).2 = 0) (hb : M.btw 0 lsn 281474976710655 = true) :
    M.decodeN (M.build lsn (M.bodyL (M.encode p).1)) = ({ p with lsn := lsn }, 0) ∧ (M.lsnL (M.build lsn (M.bodyL (M.encode p).1)) : Int) = lsn ∧ (M.build lsn (M.bodyL (M.encode p).1)).length ≤ 100000 := by
  refine ⟨M.decodeN_build p lsn h hb, ?_⟩
  obtain ⟨hi, hf, he, hb', hl⟩ := M.encode_ok h
  rw [he, M.bodyL_build _ _ hb' hl]
  exact ⟨M.lsnL_build _ _ hb hl, by rw [(M.build_parts _ _ hb hl).1]; decide⟩
theorem M.bodyL_length (s : List UInt8) : (M.bodyL s).length ≤ 1000 := by
  unfold M.bodyL
  split
  · rw [List.length_take]; omega
  · simp
set_option maxHeartbeats 4000000 in
theorem builds_any (n0 n1 n2 n3 : Int) (hi : List UInt8) (L : List M.En) (a0 : Option Addr) (cap : Nat) (lsn : Int) (body : List UInt8) (w : World) (hT : Tab w)
    (hv : Vals w (.slice a0 L.length cap) L) (hL : L.length ≤ maxLen) (hu : hi.length ≤ maxLen) (hs : ∀ e ∈ L, e.1.length ≤ maxLen ∧ e.2.1.length ≤ maxLen) (hn : -9223372036854775808 ≤ n0 ∧ n0 ≤ 9223372036854775807)
    (hl : -9223372036854775808 ≤ lsn ∧ lsn ≤ 9223372036854775807) :
    Calls Tryd.prog 5 #[.agg #[.int .i64 n0, .int .i64 n1, .int .i64 n2, .int .i64 n3, .string (M.bs hi), .slice a0 L.length cap], .int .i64 lsn, .string (M.bs body)] w fun e w' => e = .returned (.bool true) ∧ Bel w w' := by
  have zl : (M.bs body).size = body.length := M.bs_size body
  have H1 := fun W h => made_any n0 n1 n2 n3 hi L a0 cap W h hL hu hs
  have hsm := madeP_small n0 n1 n2 n3 hi L
  have H2 := fun W x h t => encode_any (madeP n0 n1 n2 n3 hi L) x W hsm h t hn
  have H4 := fun W x y hx hy => same_any (madeP n0 n1 n2 n3 hi L) (madeP n0 n1 n2 n3 hi L) x y W hx hy (by have := hsm.es; omega)
  have HD := hid (M.decode_of_build (madeP n0 n1 n2 n3 hi L) lsn)
  simp only [madeP] at H2 H4 HD
  generalize hi.take 80 = H at *
  generalize (M.encode { lsn := n0, kind := n1, level := n2, right := n3, high := H, es := cut L }).2 = cd at *
  generalize (M.encode { lsn := n0, kind := n1, level := n2, right := n3, high := H, es := cut L }).1 = S at *
  have HBS := fun W => body_any S W
  have HT2 := fun W t => build_any lsn (M.bodyL S) W t (by have := M.bodyL_length S; omega) hl
  obtain ⟨TT, hTT⟩ : ∃ TT, M.build lsn (M.bodyL S) = TT := ⟨_, rfl⟩
  rw [hTT] at HD HT2
  have hTT := hid hTT
  have bW : Bel w (w.alloc (.cells #[.int .i64 n0, .int .i64 n1, .int .i64 n2, .int .i64 n3, .string (M.bs hi), .slice a0 L.length cap] 25)) := Bel.al (Below.refl _ _) _
  have g0 : Bt 25 (w.alloc (.cells #[.int .i64 n0, .int .i64 n1, .int .i64 n2, .int .i64 n3, .string (M.bs hi), .slice a0 L.length cap] 25)) w.heap.size (.int .i64 n0) (.int .i64 n1) (.int .i64 n2) (.int .i64 n3) (.string (M.bs hi)) (.slice a0 L.length cap) := heap_alloc_new w _
  have HV := hid (hv.bel bW)
  clear hv hs hL hu hsm
  go_enter Tryd.func5, Tryd.ntmps5
  go_wp2_with fail
  refine (speaks_any _ (hT.bel bW)).mono ?_
  rintro e w1 ⟨rfl, b1⟩
  obtain ⟨s0, s1, s2, s3, s4, s5⟩ := (g0.bel b1).cells
  have g1 := hid (g0.bel b1)
  have bb1 := bW.tr b1
  have hv1 := HV.out.bel b1
  clear g0 HV bW
  go_wp2_with fail
  refine (H1 _ hv1).mono ?_
  rintro e w2 ⟨x, y, rfl, ox, oy, b2⟩
  have vx := ox.vals
  obtain ⟨ax, cx, rfl, _⟩ := id vx
  obtain ⟨ay, cy, rfl, _⟩ := id oy.vals
  have bb2 := bb1.tr b2
  clear s0 s1 s2 s3 s4 s5 ox oy
  have hb3 : Bel w2 ((w2.alloc (.cells #[.int .i64 n0, .int .i64 n1, .int .i64 n2, .int .i64 n3, .string (M.bs H), .slice ax (cut L).length cx] 29)).alloc (.cells #[.int .i64 n0, .int .i64 n1, .int .i64 n2, .int .i64 n3, .string (M.bs H), .slice ay (cut L).length cy] 32)) := Bel.al (Bel.al (Below.refl _ _) _) _
  have c3 := hid (show Bt 29 ((w2.alloc (.cells #[.int .i64 n0, .int .i64 n1, .int .i64 n2, .int .i64 n3, .string (M.bs H), .slice ax (cut L).length cx] 29)).alloc (.cells #[.int .i64 n0, .int .i64 n1, .int .i64 n2, .int .i64 n3, .string (M.bs H), .slice ay (cut L).length cy] 32)) w2.heap.size (.int .i64 n0) (.int .i64 n1) (.int .i64 n2) (.int .i64 n3) (.string (M.bs H)) (.slice ax (cut L).length cx) from (heap_two w2 _ _).1)
  obtain ⟨t0, t1, t2, t3, t4, t5⟩ := c3.out.cells
  have g3 := hid (g1.out.bel (b2.tr hb3))
  have VX := hid (vx.bel hb3)
  have hv3 := hid ((hv1.bel b2).bel hb3)
  have bb3 := bb2.tr hb3
  clear vx hb3 b2 bb2 g1 hv1
  go_wp2_with fail
  refine (H2 _ _ VX.out (hT.bel bb3)).mono ?_
  rintro e w6 ⟨rfl, b6⟩
  have bb6 := bb3.tr b6
  have c6 := hid (c3.out.bel b6)
  have g6 := hid (g3.out.bel b6)
  have hv6 := hid (hv3.out.bel b6)
  clear t0 t1 t2 t3 t4 t5 c3 g3 hv3
  by_cases c0 : 0 ≤ lsn
  · by_cases c00 : lsn < 281474976710656
    · have hbt : M.btw 0 lsn 281474976710655 = true := by rw [M.btw_iff]; omega
      have c1 : ((0 : Int) ≤ lsn) = True := by simp; omega
      have c2 : (lsn < (281474976710656 : Int)) = True := by simp; omega
      by_cases hcd : cd = 0
      case neg =>
        have qc : ((cd : Int) == 0) = false := by first | (simp; done) | (simp; omega)
        have qc2 : ¬ ((cd : Int) = 0) := by omega
        by_cases hk : 1000 < body.length
        · have q1 : ((1000 : Int) < (body.length : Int)) = True := by simp; omega
          go_wp2_with fail
          go_ret
          exact ⟨rfl, bb6⟩
        by_cases hk : body.length = 496
        · have HB := fun W t => build_any lsn body W t (by omega) hl
          have hB := M.build_some lsn body hbt hk
          generalize M.build lsn body = B at *
          have zB1 : (M.bs B).toList.isEmpty = false := by rw [M.bs_toList]; simpa using hB
          have zB2 : ¬ (M.bs B).toList = [] := by rw [M.bs_toList]; exact hB
          have HBo : ∀ W, Calls Tryd.prog 22 #[.string (M.bs body)] W fun e w' => e = .returned (.string (M.bs [])) ∧ W = w' := fun W => by have h := body_any body W; unfold M.bodyL at h; rw [if_neg (by omega)] at h; exact h
          have HLo : ∀ W, Calls Tryd.prog 20 #[.string (M.bs body)] W fun e w' => e = .returned (.int .i64 0) ∧ W = w' := fun W => by have h := lsn_any body W; unfold M.lsnL at h; rw [if_neg (by omega)] at h; exact h
          have qE : (M.bs []).toList = [] := M.bs_toList []
          rw [hk] at zl
          go_wp2_with fail
          refine (HB _ (hT.bel bb6)).mono ?_
          rintro e wt ⟨rfl, bt⟩
          have bbt := bb6.tr bt
          go_wp2_with fail
          refine (HBo _).mono ?_
          rintro e wt2 ⟨rfl, rfl⟩
          go_wp2_with fail
          refine (HLo _).mono ?_
          rintro e wt2 ⟨rfl, rfl⟩
          go_wp2_with fail
          go_ret
          exact ⟨rfl, bbt⟩
        by_cases hk : body.length = 512
        · have HB := fun W t => build_any lsn body W t (by omega) hl
          have hB : M.build lsn body = [] := by unfold M.build; rw [if_neg (fun h => absurd h.2 (by omega))]
          rw [hB] at HB
          have qE : (M.bs []).toList = [] := M.bs_toList []
          rw [hk] at zl
          go_wp2_with fail
          refine (HB _ (hT.bel bb6)).mono ?_
          rintro e wt ⟨rfl, bt⟩
          have bbt := bb6.tr bt
          go_wp2_with fail
          go_ret
          exact ⟨rfl, bbt⟩
        have HB := fun W t => build_any lsn body W t (by omega) hl
        have hB : M.build lsn body = [] := by unfold M.build; rw [if_neg (fun h => absurd h.2 (by omega))]
        rw [hB] at HB
        have HBo : ∀ W, Calls Tryd.prog 22 #[.string (M.bs body)] W fun e w' => e = .returned (.string (M.bs [])) ∧ W = w' := fun W => by have h := body_any body W; unfold M.bodyL at h; rw [if_neg (by omega)] at h; exact h
        have HLo : ∀ W, Calls Tryd.prog 20 #[.string (M.bs body)] W fun e w' => e = .returned (.int .i64 0) ∧ W = w' := fun W => by have h := lsn_any body W; unfold M.lsnL at h; rw [if_neg (by omega)] at h; exact h
        have qE : (M.bs []).toList = [] := M.bs_toList []
        have q1 : ((1000 : Int) < (body.length : Int)) = False := by simp; omega
        have q2 : ((body.length : Int) == 496) = false := by simp; omega
        have q3 : ¬ ((body.length : Int) = 496) := by omega
        have q4 : ((body.length : Int) == 512) = false := by simp; omega
        have q5 : ¬ ((body.length : Int) = 512) := by omega
        have q6 : ¬ (body.length = 496) := by omega
        have q7 : ¬ (body.length = 512) := by omega
        go_wp2_with fail
        refine (HB _ (hT.bel bb6)).mono ?_
        rintro e wt ⟨rfl, bt⟩
        have bbt := bb6.tr bt
        go_wp2_with fail
        refine (HBo _).mono ?_
        rintro e wt2 ⟨rfl, rfl⟩
        go_wp2_with fail
        refine (HLo _).mono ?_
        rintro e wt2 ⟨rfl, rfl⟩
        go_wp2_with fail
        go_ret
        exact ⟨rfl, bbt⟩
      subst hcd
      go_wp2_with fail
      refine (HBS _).mono ?_
      rintro e w7 ⟨rfl, rfl⟩
      go_wp2_with fail
      refine (HT2 _ (hT.bel bb6)).mono ?_
      rintro e w7 ⟨rfl, b7⟩
      have bb7 := bb6.tr b7
      have HD := HD.out (by trivial) hbt
      have HDC := fun W t => decode_any TT W t HD.2.2
      rw [HD.1] at HDC
      simp only [pv] at HDC
      have HLT := fun W => lsn_any TT W
      rw [HD.2.1] at HLT
      clear HD
      go_wp2_with fail
      refine (HDC _ (hT.bel bb7)).mono ?_
      rintro e w8 ⟨v, rfl, vv, b8⟩
      obtain ⟨dx, fx, rfl, _⟩ := id vv
      have bb8 := bb7.tr b8
      clear HDC
      have bA : Bel w8 (w8.alloc (.cells #[.int .i64 n0, .int .i64 n1, .int .i64 n2, .int .i64 n3, .string (M.bs H), .slice dx (cut L).length fx] 29)) := Bel.al (Below.refl _ _) _
      have e8 := hid (show Bt 29 (w8.alloc (.cells #[.int .i64 n0, .int .i64 n1, .int .i64 n2, .int .i64 n3, .string (M.bs H), .slice dx (cut L).length fx] 29)) w8.heap.size (.int .i64 n0) (.int .i64 n1) (.int .i64 n2) (.int .i64 n3) (.string (M.bs H)) (.slice dx (cut L).length fx) from heap_alloc_new w8 _)
      have c8 := (c6.out.bel b7).bel b8
      obtain ⟨t0, t1, t2, t3, t4, t5⟩ := c8.cells
      have bB : Bel w8 (w8.alloc (.cells #[.int .i64 lsn, .int .i64 n1, .int .i64 n2, .int .i64 n3, .string (M.bs H), .slice dx (cut L).length fx] 29)) := Bel.al (Below.refl _ _) _
      have ta := (c8.bel bB).cells.1
      clear t0 t1 t2 t3 t4 t5
      obtain ⟨k0, k1, k2, k3, k4, k5⟩ := (((g6.out.bel b7).bel b8).bel bA).cells
      go_wp2_with fail
      refine (H1 _ (((hv6.out.bel b7).bel b8).bel bA)).mono ?_
      rintro e w9 ⟨x, y, rfl, ox, oy, b9⟩
      obtain ⟨ax2, cx2, rfl, _⟩ := id ox.vals
      have vy := oy.vals
      obtain ⟨ay2, cy2, rfl, _⟩ := id vy
      have bb9 := (bb8.tr bA).tr b9
      have bC : Bel w9 ((w9.alloc (.cells #[.int .i64 n0, .int .i64 n1, .int .i64 n2, .int .i64 n3, .string (M.bs H), .slice ax2 (cut L).length cx2] 29)).alloc (.cells #[.int .i64 n0, .int .i64 n1, .int .i64 n2, .int .i64 n3, .string (M.bs H), .slice ay2 (cut L).length cy2] 32)) := Bel.al (Bel.al (Below.refl _ _) _) _
      have bb10 := bb9.tr bC
      have VP := hid (((vv.bel bA).bel b9).bel bC)
      have VW := hid (vy.bel bC)
      have e10 := ((e8.out.bel b9).bel bC)
      have d10 := (show Bt 32 ((w9.alloc (.cells #[.int .i64 n0, .int .i64 n1, .int .i64 n2, .int .i64 n3, .string (M.bs H), .slice ax2 (cut L).length cx2] 29)).alloc (.cells #[.int .i64 n0, .int .i64 n1, .int .i64 n2, .int .i64 n3, .string (M.bs H), .slice ay2 (cut L).length cy2] 32)) (w9.heap.size + 1) (.int .i64 n0) (.int .i64 n1) (.int .i64 n2) (.int .i64 n3) (.string (M.bs H)) (.slice ay2 (cut L).length cy2) from (heap_two w9 _ _).2)
      clear k0 k1 k2 k3 k4 k5 ta ox oy vy
      obtain ⟨k0, k1, k2, k3, k4, k5⟩ := e10.cells
      obtain ⟨t0, t1, t2, t3, t4, t5⟩ := d10.cells
      have HZ := hid (H4 _ _ _ VP.out VW.out)
      go_wp2_with fail
      refine HZ.out.mono ?_
      rintro e w11 ⟨b, rfl, hb, b11⟩
      have hbt2 : b = true := hb.2 (by trivial)
      subst hbt2
      have bb11 := bb10.tr b11
      clear hb
      go_wp2_with fail
      refine (HLT _).mono ?_
      rintro e w12 ⟨rfl, rfl⟩
      by_cases hk : 1000 < body.length
      · have q1 : ((1000 : Int) < (body.length : Int)) = True := by simp; omega
        go_wp2_with fail
        go_ret
        exact ⟨rfl, bb11⟩
      by_cases hk : body.length = 496
      · have HB := fun W t => build_any lsn body W t (by omega) hl
        have hB := M.build_some lsn body hbt hk
        generalize M.build lsn body = B at *
        have zB1 : (M.bs B).toList.isEmpty = false := by rw [M.bs_toList]; simpa using hB
        have zB2 : ¬ (M.bs B).toList = [] := by rw [M.bs_toList]; exact hB
        have HBo : ∀ W, Calls Tryd.prog 22 #[.string (M.bs body)] W fun e w' => e = .returned (.string (M.bs [])) ∧ W = w' := fun W => by have h := body_any body W; unfold M.bodyL at h; rw [if_neg (by omega)] at h; exact h
        have HLo : ∀ W, Calls Tryd.prog 20 #[.string (M.bs body)] W fun e w' => e = .returned (.int .i64 0) ∧ W = w' := fun W => by have h := lsn_any body W; unfold M.lsnL at h; rw [if_neg (by omega)] at h; exact h
        have qE : (M.bs []).toList = [] := M.bs_toList []
        rw [hk] at zl
        go_wp2_with fail
        refine (HB _ (hT.bel bb11)).mono ?_
        rintro e wt ⟨rfl, bt⟩
        have bbt := bb11.tr bt
        go_wp2_with fail
        refine (HBo _).mono ?_
        rintro e wt2 ⟨rfl, rfl⟩
        go_wp2_with fail
        refine (HLo _).mono ?_
        rintro e wt2 ⟨rfl, rfl⟩
        go_wp2_with fail
        go_ret
        exact ⟨rfl, bbt⟩
      by_cases hk : body.length = 512
      · have HB := fun W t => build_any lsn body W t (by omega) hl
        have hB : M.build lsn body = [] := by unfold M.build; rw [if_neg (fun h => absurd h.2 (by omega))]
        rw [hB] at HB
        have qE : (M.bs []).toList = [] := M.bs_toList []
        rw [hk] at zl
        go_wp2_with fail
        refine (HB _ (hT.bel bb11)).mono ?_
        rintro e wt ⟨rfl, bt⟩
        have bbt := bb11.tr bt
        go_wp2_with fail
        go_ret
        exact ⟨rfl, bbt⟩
      have HB := fun W t => build_any lsn body W t (by omega) hl
      have hB : M.build lsn body = [] := by unfold M.build; rw [if_neg (fun h => absurd h.2 (by omega))]
      rw [hB] at HB
      have HBo : ∀ W, Calls Tryd.prog 22 #[.string (M.bs body)] W fun e w' => e = .returned (.string (M.bs [])) ∧ W = w' := fun W => by have h := body_any body W; unfold M.bodyL at h; rw [if_neg (by omega)] at h; exact h
      have HLo : ∀ W, Calls Tryd.prog 20 #[.string (M.bs body)] W fun e w' => e = .returned (.int .i64 0) ∧ W = w' := fun W => by have h := lsn_any body W; unfold M.lsnL at h; rw [if_neg (by omega)] at h; exact h
      have qE : (M.bs []).toList = [] := M.bs_toList []
      have q1 : ((1000 : Int) < (body.length : Int)) = False := by simp; omega
      have q2 : ((body.length : Int) == 496) = false := by simp; omega
      have q3 : ¬ ((body.length : Int) = 496) := by omega
      have q4 : ((body.length : Int) == 512) = false := by simp; omega
      have q5 : ¬ ((body.length : Int) = 512) := by omega
      have q6 : ¬ (body.length = 496) := by omega
      have q7 : ¬ (body.length = 512) := by omega
      go_wp2_with fail
      refine (HB _ (hT.bel bb11)).mono ?_
      rintro e wt ⟨rfl, bt⟩
      have bbt := bb11.tr bt
      go_wp2_with fail
      refine (HBo _).mono ?_
      rintro e wt2 ⟨rfl, rfl⟩
      go_wp2_with fail
      refine (HLo _).mono ?_
      rintro e wt2 ⟨rfl, rfl⟩
      go_wp2_with fail
      go_ret
      exact ⟨rfl, bbt⟩
    · have hbt : M.btw 0 lsn 281474976710655 = false := by unfold M.btw; simp; omega
      have c1 : ((0 : Int) ≤ lsn) = True := by simp; omega
      have c2 : (lsn < (281474976710656 : Int)) = False := by simp; omega
      by_cases hcd : cd = 0
      case neg =>
        have qc : ((cd : Int) == 0) = false := by first | (simp; done) | (simp; omega)
        have qc2 : ¬ ((cd : Int) = 0) := by omega
        by_cases hk : 1000 < body.length
        · have q1 : ((1000 : Int) < (body.length : Int)) = True := by simp; omega
          go_wp2_with fail
          go_ret
          exact ⟨rfl, bb6⟩
        by_cases hk : body.length = 496
        · have HB := fun W t => build_any lsn body W t (by omega) hl
          have hB : M.build lsn body = [] := by unfold M.build; rw [if_neg (fun h => by rw [hbt] at h; exact absurd h.1 (by simp))]
          rw [hB] at HB
          have HBo : ∀ W, Calls Tryd.prog 22 #[.string (M.bs body)] W fun e w' => e = .returned (.string (M.bs [])) ∧ W = w' := fun W => by have h := body_any body W; unfold M.bodyL at h; rw [if_neg (by omega)] at h; exact h
          have HLo : ∀ W, Calls Tryd.prog 20 #[.string (M.bs body)] W fun e w' => e = .returned (.int .i64 0) ∧ W = w' := fun W => by have h := lsn_any body W; unfold M.lsnL at h; rw [if_neg (by omega)] at h; exact h
          have qE : (M.bs []).toList = [] := M.bs_toList []
          rw [hk] at zl
          go_wp2_with fail
          refine (HB _ (hT.bel bb6)).mono ?_
          rintro e wt ⟨rfl, bt⟩
          have bbt := bb6.tr bt
          go_wp2_with fail
          refine (HBo _).mono ?_
          rintro e wt2 ⟨rfl, rfl⟩
          go_wp2_with fail
          refine (HLo _).mono ?_
          rintro e wt2 ⟨rfl, rfl⟩
          go_wp2_with fail
          go_ret
          exact ⟨rfl, bbt⟩
        by_cases hk : body.length = 512
        · have HB := fun W t => build_any lsn body W t (by omega) hl
          have hB : M.build lsn body = [] := by unfold M.build; rw [if_neg (fun h => by rw [hbt] at h; exact absurd h.1 (by simp))]
          rw [hB] at HB
          have qE : (M.bs []).toList = [] := M.bs_toList []
          rw [hk] at zl
          go_wp2_with fail
          refine (HB _ (hT.bel bb6)).mono ?_
          rintro e wt ⟨rfl, bt⟩
          have bbt := bb6.tr bt
          go_wp2_with fail
          go_ret
          exact ⟨rfl, bbt⟩
        have HB := fun W t => build_any lsn body W t (by omega) hl
        have hB : M.build lsn body = [] := by unfold M.build; rw [if_neg (fun h => by rw [hbt] at h; exact absurd h.1 (by simp))]
        rw [hB] at HB
        have HBo : ∀ W, Calls Tryd.prog 22 #[.string (M.bs body)] W fun e w' => e = .returned (.string (M.bs [])) ∧ W = w' := fun W => by have h := body_any body W; unfold M.bodyL at h; rw [if_neg (by omega)] at h; exact h
        have HLo : ∀ W, Calls Tryd.prog 20 #[.string (M.bs body)] W fun e w' => e = .returned (.int .i64 0) ∧ W = w' := fun W => by have h := lsn_any body W; unfold M.lsnL at h; rw [if_neg (by omega)] at h; exact h
        have qE : (M.bs []).toList = [] := M.bs_toList []
        have q1 : ((1000 : Int) < (body.length : Int)) = False := by simp; omega
        have q2 : ((body.length : Int) == 496) = false := by simp; omega
        have q3 : ¬ ((body.length : Int) = 496) := by omega
        have q4 : ((body.length : Int) == 512) = false := by simp; omega
        have q5 : ¬ ((body.length : Int) = 512) := by omega
        have q6 : ¬ (body.length = 496) := by omega
        have q7 : ¬ (body.length = 512) := by omega
        go_wp2_with fail
        refine (HB _ (hT.bel bb6)).mono ?_
        rintro e wt ⟨rfl, bt⟩
        have bbt := bb6.tr bt
        go_wp2_with fail
        refine (HBo _).mono ?_
        rintro e wt2 ⟨rfl, rfl⟩
        go_wp2_with fail
        refine (HLo _).mono ?_
        rintro e wt2 ⟨rfl, rfl⟩
        go_wp2_with fail
        go_ret
        exact ⟨rfl, bbt⟩
      subst hcd
      go_wp2_with fail
      refine (HBS _).mono ?_
      rintro e w7 ⟨rfl, rfl⟩
      go_wp2_with fail
      refine (HT2 _ (hT.bel bb6)).mono ?_
      rintro e w7 ⟨rfl, b7⟩
      have bb7 := bb6.tr b7
      have hTz : TT = [] := by rw [← hTT]; unfold M.build; rw [if_neg (fun h => by rw [hbt] at h; exact absurd h.1 (by simp))]
      subst hTz
      have qE : (M.bs []).toList = [] := M.bs_toList []
      go_wp2_with fail
      go_ret
      exact ⟨rfl, bb7⟩
  · have hbt : M.btw 0 lsn 281474976710655 = false := by unfold M.btw; simp; omega
    have c1 : ((0 : Int) ≤ lsn) = False := by simp; omega
    by_cases hcd : cd = 0
    case neg =>
      have qc : ((cd : Int) == 0) = false := by first | (simp; done) | (simp; omega)
      have qc2 : ¬ ((cd : Int) = 0) := by omega
      by_cases hk : 1000 < body.length
      · have q1 : ((1000 : Int) < (body.length : Int)) = True := by simp; omega
        go_wp2_with fail
        go_ret
        exact ⟨rfl, bb6⟩
      by_cases hk : body.length = 496
      · have HB := fun W t => build_any lsn body W t (by omega) hl
        have hB : M.build lsn body = [] := by unfold M.build; rw [if_neg (fun h => by rw [hbt] at h; exact absurd h.1 (by simp))]
        rw [hB] at HB
        have HBo : ∀ W, Calls Tryd.prog 22 #[.string (M.bs body)] W fun e w' => e = .returned (.string (M.bs [])) ∧ W = w' := fun W => by have h := body_any body W; unfold M.bodyL at h; rw [if_neg (by omega)] at h; exact h
        have HLo : ∀ W, Calls Tryd.prog 20 #[.string (M.bs body)] W fun e w' => e = .returned (.int .i64 0) ∧ W = w' := fun W => by have h := lsn_any body W; unfold M.lsnL at h; rw [if_neg (by omega)] at h; exact h
        have qE : (M.bs []).toList = [] := M.bs_toList []
        rw [hk] at zl
        go_wp2_with fail
        refine (HB _ (hT.bel bb6)).mono ?_
        rintro e wt ⟨rfl, bt⟩
        have bbt := bb6.tr bt
        go_wp2_with fail
        refine (HBo _).mono ?_
        rintro e wt2 ⟨rfl, rfl⟩
        go_wp2_with fail
        refine (HLo _).mono ?_
        rintro e wt2 ⟨rfl, rfl⟩
        go_wp2_with fail
        go_ret
        exact ⟨rfl, bbt⟩
      by_cases hk : body.length = 512
      · have HB := fun W t => build_any lsn body W t (by omega) hl
        have hB : M.build lsn body = [] := by unfold M.build; rw [if_neg (fun h => by rw [hbt] at h; exact absurd h.1 (by simp))]
        rw [hB] at HB
        have qE : (M.bs []).toList = [] := M.bs_toList []
        rw [hk] at zl
        go_wp2_with fail
        refine (HB _ (hT.bel bb6)).mono ?_
        rintro e wt ⟨rfl, bt⟩
        have bbt := bb6.tr bt
        go_wp2_with fail
        go_ret
        exact ⟨rfl, bbt⟩
      have HB := fun W t => build_any lsn body W t (by omega) hl
      have hB : M.build lsn body = [] := by unfold M.build; rw [if_neg (fun h => by rw [hbt] at h; exact absurd h.1 (by simp))]
      rw [hB] at HB
      have HBo : ∀ W, Calls Tryd.prog 22 #[.string (M.bs body)] W fun e w' => e = .returned (.string (M.bs [])) ∧ W = w' := fun W => by have h := body_any body W; unfold M.bodyL at h; rw [if_neg (by omega)] at h; exact h
      have HLo : ∀ W, Calls Tryd.prog 20 #[.string (M.bs body)] W fun e w' => e = .returned (.int .i64 0) ∧ W = w' := fun W => by have h := lsn_any body W; unfold M.lsnL at h; rw [if_neg (by omega)] at h; exact h
      have qE : (M.bs []).toList = [] := M.bs_toList []
      have q1 : ((1000 : Int) < (body.length : Int)) = False := by simp; omega
      have q2 : ((body.length : Int) == 496) = false := by simp; omega
      have q3 : ¬ ((body.length : Int) = 496) := by omega
      have q4 : ((body.length : Int) == 512) = false := by simp; omega
      have q5 : ¬ ((body.length : Int) = 512) := by omega
      have q6 : ¬ (body.length = 496) := by omega
      have q7 : ¬ (body.length = 512) := by omega
      go_wp2_with fail
      refine (HB _ (hT.bel bb6)).mono ?_
      rintro e wt ⟨rfl, bt⟩
      have bbt := bb6.tr bt
      go_wp2_with fail
      refine (HBo _).mono ?_
      rintro e wt2 ⟨rfl, rfl⟩
      go_wp2_with fail
      refine (HLo _).mono ?_
      rintro e wt2 ⟨rfl, rfl⟩
      go_wp2_with fail
      go_ret
      exact ⟨rfl, bbt⟩
    subst hcd
    go_wp2_with fail
    refine (HBS _).mono ?_
    rintro e w7 ⟨rfl, rfl⟩
    go_wp2_with fail
    refine (HT2 _ (hT.bel bb6)).mono ?_
    rintro e w7 ⟨rfl, b7⟩
    have bb7 := bb6.tr b7
    have hTz : TT = [] := by rw [← hTT]; unfold M.build; rw [if_neg (fun h => by rw [hbt] at h; exact absurd h.1 (by simp))]
    subst hTz
    have qE : (M.bs []).toList = [] := M.bs_toList []
    go_wp2_with fail
    go_ret
    exact ⟨rfl, bb7⟩
theorem builds_all (n0 n1 n2 n3 : Int) (hi : List UInt8) (L : List M.En) (a0 : Option Addr) (cap : Nat) (lsn : Int) (body : ByteArray) (w : World) (hT : Tab w)
    (hv : Vals w (.slice a0 L.length cap) L) (hL : L.length ≤ maxLen) (hu : hi.length ≤ maxLen) (hs : ∀ e ∈ L, e.1.length ≤ maxLen ∧ e.2.1.length ≤ maxLen) (hn : -9223372036854775808 ≤ n0 ∧ n0 ≤ 9223372036854775807)
    (hl : -9223372036854775808 ≤ lsn ∧ lsn ≤ 9223372036854775807) :
    Calls Tryd.prog 5 #[.agg #[.int .i64 n0, .int .i64 n1, .int .i64 n2, .int .i64 n3, .string (M.bs hi), .slice a0 L.length cap], .int .i64 lsn, .string body] w fun e w' => e = .returned (.bool true) ∧ Bel w w' := by
  have h := builds_any n0 n1 n2 n3 hi L a0 cap lsn body.data.toList w hT hv hL hu hs hn hl
  rw [M.bs_of] at h
  exact h
end Go.Proofs.YtaepbmcmggnmpaaDoor
