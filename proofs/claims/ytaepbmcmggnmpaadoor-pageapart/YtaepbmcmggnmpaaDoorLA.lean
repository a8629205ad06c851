/-
  The law PageApart, walked.
-/
import Derived.Test.YtaepbmcmggnmpaaDoorSB
import Derived.Test.YtaepbmcmggnmpaaDoorRT
import Derived.Test.YtaepbmcmggnmpaaDoorI
namespace Go.Proofs.YtaepbmcmggnmpaaDoor
open Go.RowKit
set_option maxRecDepth 100000

set_option maxHeartbeats 4000000 in
theorem apart_any (n0 n1 n2 n3 : Int) (hi : List UInt8) (L : List M.En) (a0 : Option Addr) (cap : Nat) (m0 m1 m2 m3 : Int) (hj : List UInt8) (K : List M.En) (b0 : Option Addr) (dap : Nat) (w : World) (hT : Tab w)
    (hv : Vals w (.slice a0 L.length cap) L) (hL : L.length ≤ maxLen) (hu : hi.length ≤ maxLen) (hs : ∀ e ∈ L, e.1.length ≤ maxLen ∧ e.2.1.length ≤ maxLen) (hn : -9223372036854775808 ≤ n0 ∧ n0 ≤ 9223372036854775807)
    (hv' : Vals w (.slice b0 K.length dap) K) (hL' : K.length ≤ maxLen) (hu' : hj.length ≤ maxLen) (hs' : ∀ e ∈ K, e.1.length ≤ maxLen ∧ e.2.1.length ≤ maxLen) (hm : -9223372036854775808 ≤ m0 ∧ m0 ≤ 9223372036854775807) :
    Calls Tryd.prog 8 #[.agg #[.int .i64 n0, .int .i64 n1, .int .i64 n2, .int .i64 n3, .string (M.bs hi), .slice a0 L.length cap], .agg #[.int .i64 m0, .int .i64 m1, .int .i64 m2, .int .i64 m3, .string (M.bs hj), .slice b0 K.length dap]] w fun e w' => e = .returned (.bool true) ∧ Bel w w' := by
  have H1 := fun W h => made_any n0 n1 n2 n3 hi L a0 cap W h hL hu hs
  have H1' := fun W h => made_any m0 m1 m2 m3 hj K b0 dap W h hL' hu' hs'
  have hsm := madeP_small n0 n1 n2 n3 hi L
  have hsm' := madeP_small m0 m1 m2 m3 hj K
  have H2 := fun W x h t => encode_any (madeP n0 n1 n2 n3 hi L) x W hsm h t hn
  have H2' := fun W x h t => encode_any (madeP m0 m1 m2 m3 hj K) x W hsm' h t hm
  have H4 := fun W x y hx hy => same_any (madeP n0 n1 n2 n3 hi L) (madeP m0 m1 m2 m3 hj K) x y W hx hy (by have := hsm.es; omega)
  have HI := hid (M.encode_inj (madeP n0 n1 n2 n3 hi L) (madeP m0 m1 m2 m3 hj K))
  simp only [madeP] at H2 H2' H4 HI
  generalize hi.take 80 = H at *
  generalize hj.take 80 = H' at *
  generalize (M.encode { lsn := n0, kind := n1, level := n2, right := n3, high := H, es := cut L }).2 = cd at *
  generalize (M.encode { lsn := n0, kind := n1, level := n2, right := n3, high := H, es := cut L }).1 = S at *
  generalize (M.encode { lsn := m0, kind := m1, level := m2, right := m3, high := H', es := cut K }).2 = cd' at *
  generalize (M.encode { lsn := m0, kind := m1, level := m2, right := m3, high := H', es := cut K }).1 = S' at *
  have bW : Bel w ((w.alloc (.cells #[.int .i64 n0, .int .i64 n1, .int .i64 n2, .int .i64 n3, .string (M.bs hi), .slice a0 L.length cap] 25)).alloc (.cells #[.int .i64 m0, .int .i64 m1, .int .i64 m2, .int .i64 m3, .string (M.bs hj), .slice b0 K.length dap] 25)) := Bel.al (Bel.al (Below.refl _ _) _) _
  have g0 : Bt 25 ((w.alloc (.cells #[.int .i64 n0, .int .i64 n1, .int .i64 n2, .int .i64 n3, .string (M.bs hi), .slice a0 L.length cap] 25)).alloc (.cells #[.int .i64 m0, .int .i64 m1, .int .i64 m2, .int .i64 m3, .string (M.bs hj), .slice b0 K.length dap] 25)) w.heap.size (.int .i64 n0) (.int .i64 n1) (.int .i64 n2) (.int .i64 n3) (.string (M.bs hi)) (.slice a0 L.length cap) := (heap_two w _ _).1
  have g1 : Bt 25 ((w.alloc (.cells #[.int .i64 n0, .int .i64 n1, .int .i64 n2, .int .i64 n3, .string (M.bs hi), .slice a0 L.length cap] 25)).alloc (.cells #[.int .i64 m0, .int .i64 m1, .int .i64 m2, .int .i64 m3, .string (M.bs hj), .slice b0 K.length dap] 25)) (w.heap.size + 1) (.int .i64 m0) (.int .i64 m1) (.int .i64 m2) (.int .i64 m3) (.string (M.bs hj)) (.slice b0 K.length dap) := (heap_two w _ _).2
  have HV := hid (hv.bel bW)
  have HV' := hid (hv'.bel bW)
  clear hv hs hL hu hsm hv' hs' hL' hu' hsm'
  go_enter Tryd.func8, Tryd.ntmps8
  go_wp2_with fail
  refine (speaks_any _ (hT.bel bW)).mono ?_
  rintro e w1 ⟨rfl, b1⟩
  obtain ⟨s0, s1, s2, s3, s4, s5⟩ := (g0.bel b1).cells
  have g1 := hid (g1.bel b1)
  have bb1 := bW.tr b1
  have hv1 := HV.out.bel b1
  have HV' := hid (HV'.out.bel b1)
  clear g0 HV bW
  go_wp2_with fail
  refine (H1 _ hv1).mono ?_
  rintro e w2 ⟨x, y, rfl, ox, oy, b2⟩
  have vx := ox.vals
  obtain ⟨ax, cx, rfl, _⟩ := id vx
  obtain ⟨ay, cy, rfl, _⟩ := id oy.vals
  have bb2 := bb1.tr b2
  clear s0 s1 s2 s3 s4 s5 ox oy H1 hv1
  have hb3 : Bel w2 ((w2.alloc (.cells #[.int .i64 n0, .int .i64 n1, .int .i64 n2, .int .i64 n3, .string (M.bs H), .slice ax (cut L).length cx] 29)).alloc (.cells #[.int .i64 n0, .int .i64 n1, .int .i64 n2, .int .i64 n3, .string (M.bs H), .slice ay (cut L).length cy] 32)) := Bel.al (Bel.al (Below.refl _ _) _) _
  have c3 := hid (show Bt 29 ((w2.alloc (.cells #[.int .i64 n0, .int .i64 n1, .int .i64 n2, .int .i64 n3, .string (M.bs H), .slice ax (cut L).length cx] 29)).alloc (.cells #[.int .i64 n0, .int .i64 n1, .int .i64 n2, .int .i64 n3, .string (M.bs H), .slice ay (cut L).length cy] 32)) w2.heap.size (.int .i64 n0) (.int .i64 n1) (.int .i64 n2) (.int .i64 n3) (.string (M.bs H)) (.slice ax (cut L).length cx) from (heap_two w2 _ _).1)
  obtain ⟨s0, s1, s2, s3, s4, s5⟩ := (g1.out.bel (b2.tr hb3)).cells
  have VX := hid (vx.bel hb3)
  have hv3 := HV'.out.bel (b2.tr hb3)
  have bb3 := bb2.tr hb3
  clear vx hb3 HV' b2 bb2
  go_wp2_with fail
  refine (H1' _ hv3).mono ?_
  rintro e w4 ⟨x, y, rfl, ox, oy, b4⟩
  have vx := ox.vals
  have vy := oy.vals
  obtain ⟨bx, ex, rfl, _⟩ := id vx
  obtain ⟨by', ey, rfl, _⟩ := id vy
  have bb4 := bb3.tr b4
  clear s0 s1 s2 s3 s4 s5 ox oy H1' hv3
  have hb5 : Bel w4 ((w4.alloc (.cells #[.int .i64 m0, .int .i64 m1, .int .i64 m2, .int .i64 m3, .string (M.bs H'), .slice bx (cut K).length ex] 29)).alloc (.cells #[.int .i64 m0, .int .i64 m1, .int .i64 m2, .int .i64 m3, .string (M.bs H'), .slice by' (cut K).length ey] 32)) := Bel.al (Bel.al (Below.refl _ _) _) _
  have d3 := hid (show Bt 29 ((w4.alloc (.cells #[.int .i64 m0, .int .i64 m1, .int .i64 m2, .int .i64 m3, .string (M.bs H'), .slice bx (cut K).length ex] 29)).alloc (.cells #[.int .i64 m0, .int .i64 m1, .int .i64 m2, .int .i64 m3, .string (M.bs H'), .slice by' (cut K).length ey] 32)) w4.heap.size (.int .i64 m0) (.int .i64 m1) (.int .i64 m2) (.int .i64 m3) (.string (M.bs H')) (.slice bx (cut K).length ex) from (heap_two w4 _ _).1)
  have d4 := hid (show Bt 32 ((w4.alloc (.cells #[.int .i64 m0, .int .i64 m1, .int .i64 m2, .int .i64 m3, .string (M.bs H'), .slice bx (cut K).length ex] 29)).alloc (.cells #[.int .i64 m0, .int .i64 m1, .int .i64 m2, .int .i64 m3, .string (M.bs H'), .slice by' (cut K).length ey] 32)) (w4.heap.size + 1) (.int .i64 m0) (.int .i64 m1) (.int .i64 m2) (.int .i64 m3) (.string (M.bs H')) (.slice by' (cut K).length ey) from (heap_two w4 _ _).2)
  have c5 := hid ((c3.out.bel b4).bel hb5)
  obtain ⟨t0, t1, t2, t3, t4, t5⟩ := c5.out.cells
  have VX := hid ((VX.out.bel b4).bel hb5)
  have VB := hid (vx.bel hb5)
  have VW := hid (vy.bel hb5)
  have bb5 := bb4.tr hb5
  clear vx vy hb5 c3 b4
  go_wp2_with fail
  refine (H2 _ _ VX.out (hT.bel bb5)).mono ?_
  rintro e w6 ⟨rfl, b6⟩
  have bb6 := bb5.tr b6
  clear t0 t1 t2 t3 t4 t5
  obtain ⟨t0, t1, t2, t3, t4, t5⟩ := (d3.out.bel b6).cells
  go_wp2_with fail
  refine (H2' _ _ (VB.out.bel b6) (hT.bel bb6)).mono ?_
  rintro e w7 ⟨rfl, b7⟩
  have bb7 := bb6.tr b7
  clear t0 t1 t2 t3 t4 t5
  obtain ⟨t0, t1, t2, t3, t4, t5⟩ := ((c5.out.bel b6).bel b7).cells
  obtain ⟨s0, s1, s2, s3, s4, s5⟩ := ((d4.out.bel b6).bel b7).cells
  by_cases hcd : cd = 0
  case neg =>
    have qc : ((cd : Int) != 0) = true := by first | (simp; done) | (simp; omega)
    have qc2 : ¬ ((cd : Int) = 0) := by omega
    go_wp2_with fail
    go_ret
    exact ⟨rfl, bb7⟩
  subst hcd
  by_cases hcd : cd' = 0
  case neg =>
    have qc : ((cd' : Int) != 0) = true := by first | (simp; done) | (simp; omega)
    have qc2 : ¬ ((cd' : Int) = 0) := by omega
    go_wp2_with fail
    go_ret
    exact ⟨rfl, bb7⟩
  subst hcd
  have HI := hid (HI.out rfl rfl)
  have HZ := hid (H4 _ _ _ ((VX.out.bel b6).bel b7) ((VW.out.bel b6).bel b7))
  by_cases hST : S = S'
  · subst hST
    have HR := hid (HI.out.1 rfl)
    go_wp2_with fail
    refine HZ.out.mono ?_
    rintro e w8 ⟨b, rfl, hb, b8⟩
    have hbt : b = true := hb.2 HR.out
    subst hbt
    clear hb
    go_wp2_with fail
    go_ret
    exact ⟨rfl, bb7.tr b8⟩
  · have HR : Hid (¬ _) := fun e => hST (HI.out.2 e)
    have z1 : ¬ (M.bs S = M.bs S') := fun e => hST (by have := congrArg (fun b => b.data.toList) e; simpa [M.bs_data] using this)
    have z3 : ¬ ((M.bs S).toList = (M.bs S').toList) := by rw [M.bs_toList, M.bs_toList]; exact hST
    have z4 : ((M.bs S).toList == (M.bs S').toList) = false := by simp [z3]
    go_wp2_with fail
    refine HZ.out.mono ?_
    rintro e w8 ⟨b, rfl, hb, b8⟩
    have hbt : b = false := by cases b with | false => rfl | true => exact absurd (hb.1 rfl) HR.out
    subst hbt
    clear hb
    go_wp2_with fail
    go_ret
    exact ⟨rfl, bb7.tr b8⟩
end Go.Proofs.YtaepbmcmggnmpaaDoor
