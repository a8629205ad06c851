/-
  The law RecordApart, walked.
-/
import Derived.Test.YtaepbmcmggnmpaaSC
import Derived.Test.YtaepbmcmggnmpaaMX
namespace Go.Proofs.Ytaepbmcmggnmpaa
open Go.RowKit
set_option maxRecDepth 100000

theorem putR_inj (n0 n1 n2 n3 m0 m1 m2 m3 : Int) (undo vndo : List UInt8) (L K : List M.Ch) (h1 : (M.putR (madeR n0 n1 n2 n3 undo L)).2 = 0) (h2 : (M.putR (madeR m0 m1 m2 m3 vndo K)).2 = 0) :
    (M.putR (madeR n0 n1 n2 n3 undo L)).1 = (M.putR (madeR m0 m1 m2 m3 vndo K)).1 ↔ madeR n0 n1 n2 n3 undo L = madeR m0 m1 m2 m3 vndo K := by
  have key : ∀ (n0 n1 n2 n3 : Int) (undo : List UInt8) (L : List M.Ch), (M.putR (madeR n0 n1 n2 n3 undo L)).2 = 0 → M.getR (M.putR (madeR n0 n1 n2 n3 undo L)).1 = (madeR n0 n1 n2 n3 undo L, 0) := by
    intro n0 n1 n2 n3 undo L h
    by_cases hi : M.inB (madeR n0 n1 n2 n3 undo L) = true
    · by_cases hl : 16384 < (M.recB (madeR n0 n1 n2 n3 undo L)).length
      · unfold M.putR at h; rw [if_pos hi, if_pos hl] at h; cases h
      · have e : M.putR (madeR n0 n1 n2 n3 undo L) = (M.recB (madeR n0 n1 n2 n3 undo L), 0) := by unfold M.putR; rw [if_pos hi, if_neg hl]
        rw [e]
        exact M.getR_putR _ hi (fun c hc => by have := (cutG_small L c hc).1; omega) (by omega)
    · unfold M.putR at h; rw [if_neg hi] at h; cases h
  constructor
  · intro h
    have a := key _ _ _ _ _ _ h1
    have b := key _ _ _ _ _ _ h2
    rw [h, b] at a
    exact (Prod.mk.inj a).1.symm
  · intro h; rw [h]
set_option maxHeartbeats 4000000 in
theorem apart_any (n0 n1 n2 n3 : Int) (undo : List UInt8) (L : List M.Ch) (a0 : Option Addr) (cap : Nat) (m0 m1 m2 m3 : Int) (vndo : List UInt8) (K : List M.Ch) (b0 : Option Addr) (dap : Nat) (w : World)
    (hv : ValC w (.slice a0 L.length cap) L) (hL : L.length ≤ maxLen) (hu : undo.length ≤ maxLen) (hs : ∀ c ∈ L, c.2.length ≤ maxLen ∧ ∀ p ∈ c.2, p.2.length ≤ maxLen)
    (hv' : ValC w (.slice b0 K.length dap) K) (hL' : K.length ≤ maxLen) (hu' : vndo.length ≤ maxLen) (hs' : ∀ c ∈ K, c.2.length ≤ maxLen ∧ ∀ p ∈ c.2, p.2.length ≤ maxLen) :
    Calls Try.prog 6 #[.agg #[.int .i64 n0, .int .i64 n1, .int .i64 n2, .int .i64 n3, .string (M.bs undo), .slice a0 L.length cap], .agg #[.int .i64 m0, .int .i64 m1, .int .i64 m2, .int .i64 m3, .string (M.bs vndo), .slice b0 K.length dap]] w fun e w' => e = .returned (.bool true) ∧ Bel w w' := by
  have H1 := fun W h => made_any n0 n1 n2 n3 undo L a0 cap W h hL hu hs
  have H1' := fun W h => made_any m0 m1 m2 m3 vndo K b0 dap W h hL' hu' hs'
  have hsm := madeR_small n0 n1 n2 n3 undo L
  have hsm' := madeR_small m0 m1 m2 m3 vndo K
  have H2 := fun W x h => putR_any (madeR n0 n1 n2 n3 undo L) x W hsm h
  have H2' := fun W x h => putR_any (madeR m0 m1 m2 m3 vndo K) x W hsm' h
  have H4 := fun W x y hx hy => same_any (madeR n0 n1 n2 n3 undo L) (madeR m0 m1 m2 m3 vndo K) x y W hx hy hsm.pages (fun c hc => (hsm.each c hc).1) (fun c hc => (hsm'.each c hc).1)
  have HI := hid (putR_inj n0 n1 n2 n3 m0 m1 m2 m3 undo vndo L K)
  simp only [madeR] at H2 H2' H4 HI
  generalize undo.take 20000 = H at *
  generalize vndo.take 20000 = H' at *
  generalize (M.putR ⟨n0, n1, n2, H, n3, cutG L⟩).2 = cd at *
  generalize (M.putR ⟨n0, n1, n2, H, n3, cutG L⟩).1 = S at *
  generalize (M.putR ⟨m0, m1, m2, H', m3, cutG K⟩).2 = cd' at *
  generalize (M.putR ⟨m0, m1, m2, H', m3, cutG K⟩).1 = S' at *
  have bW : Bel w ((w.alloc (.cells #[.int .i64 n0, .int .i64 n1, .int .i64 n2, .int .i64 n3, .string (M.bs undo), .slice a0 L.length cap] 25)).alloc (.cells #[.int .i64 m0, .int .i64 m1, .int .i64 m2, .int .i64 m3, .string (M.bs vndo), .slice b0 K.length dap] 25)) := Bel.al (Bel.al (Below.refl _ _) _) _
  have g0 : Bt 25 ((w.alloc (.cells #[.int .i64 n0, .int .i64 n1, .int .i64 n2, .int .i64 n3, .string (M.bs undo), .slice a0 L.length cap] 25)).alloc (.cells #[.int .i64 m0, .int .i64 m1, .int .i64 m2, .int .i64 m3, .string (M.bs vndo), .slice b0 K.length dap] 25)) w.heap.size (.int .i64 n0) (.int .i64 n1) (.int .i64 n2) (.int .i64 n3) (.string (M.bs undo)) (.slice a0 L.length cap) := Bt.bel (heap_alloc_new w _) (Bel.al (Below.refl _ _) _)
  have g1 : Bt 25 ((w.alloc (.cells #[.int .i64 n0, .int .i64 n1, .int .i64 n2, .int .i64 n3, .string (M.bs undo), .slice a0 L.length cap] 25)).alloc (.cells #[.int .i64 m0, .int .i64 m1, .int .i64 m2, .int .i64 m3, .string (M.bs vndo), .slice b0 K.length dap] 25)) (w.heap.size + 1) (.int .i64 m0) (.int .i64 m1) (.int .i64 m2) (.int .i64 m3) (.string (M.bs vndo)) (.slice b0 K.length dap) := (heap_two w _ _).2
  have HV := hid (hv.bel bW)
  have HV' := hid (hv'.bel bW)
  clear hv hs hL hu hsm hv' hs' hL' hu' hsm'
  go_enter Try.func6, Try.ntmps6
  go_wp2_with fail
  refine (speaks_any _).mono ?_
  rintro e w1 ⟨rfl, b1⟩
  obtain ⟨s0, s1, s2, s3, s4, s5⟩ := (g0.bel b1).cells
  have g1 := hid (g1.bel b1)
  have bb1 := bW.tr b1
  have hv1 := HV.out.bel b1
  have HV' := hid (HV'.out.bel b1)
  clear g0 HV bW
  go_wp2_with fail
  refine (H1 _ hv1).mono ?_
  rintro e w2 ⟨x, y, Qx, Qy, rfl, ⟨qx, ox, px⟩, ⟨_, oy, _⟩, b2⟩
  have vx := ox.vals px
  rw [qx] at vx
  obtain ⟨ax, cx, rfl, _⟩ := id vx
  obtain ⟨ay, cy, rfl⟩ := oy.form
  clear oy
  have bb2 := bb1.tr b2
  clear s0 s1 s2 s3 s4 s5 qx ox px H1 hv1
  have hb3 : Bel w2 ((w2.alloc (.cells #[.int .i64 n0, .int .i64 n1, .int .i64 n2, .string (M.bs H), .int .i64 n3, .slice ax (cutG L).length cx] 29)).alloc (.cells #[.int .i64 n0, .int .i64 n1, .int .i64 n2, .string (M.bs H), .int .i64 n3, .slice ay Qy.length cy] 32)) := Bel.al (Bel.al (Below.refl _ _) _) _
  have c3 := hid (show Bt 29 ((w2.alloc (.cells #[.int .i64 n0, .int .i64 n1, .int .i64 n2, .string (M.bs H), .int .i64 n3, .slice ax (cutG L).length cx] 29)).alloc (.cells #[.int .i64 n0, .int .i64 n1, .int .i64 n2, .string (M.bs H), .int .i64 n3, .slice ay Qy.length cy] 32)) w2.heap.size (.int .i64 n0) (.int .i64 n1) (.int .i64 n2) (.string (M.bs H)) (.int .i64 n3) (.slice ax (cutG L).length cx) from (heap_two w2 _ _).1)
  obtain ⟨s0, s1, s2, s3, s4, s5⟩ := (g1.out.bel (b2.tr hb3)).cells
  have VX := hid (vx.bel hb3)
  have hv3 := HV'.out.bel (b2.tr hb3)
  have bb3 := bb2.tr hb3
  clear vx hb3 HV' b2 bb2
  go_wp2_with fail
  refine (H1' _ hv3).mono ?_
  rintro e w4 ⟨x, y, Qx', Qy', rfl, ⟨qx, ox, px⟩, ⟨qy, oy, py⟩, b4⟩
  have vx := ox.vals px
  have vy := oy.vals py
  rw [qx] at vx
  rw [qy] at vy
  obtain ⟨bx, ex, rfl, _⟩ := id vx
  obtain ⟨by', ey, rfl, _⟩ := id vy
  have bb4 := bb3.tr b4
  clear s0 s1 s2 s3 s4 s5 qx qy ox oy px py H1' hv3
  have hb5 : Bel w4 ((w4.alloc (.cells #[.int .i64 m0, .int .i64 m1, .int .i64 m2, .string (M.bs H'), .int .i64 m3, .slice bx (cutG K).length ex] 29)).alloc (.cells #[.int .i64 m0, .int .i64 m1, .int .i64 m2, .string (M.bs H'), .int .i64 m3, .slice by' (cutG K).length ey] 32)) := Bel.al (Bel.al (Below.refl _ _) _) _
  have d3 := hid (show Bt 29 ((w4.alloc (.cells #[.int .i64 m0, .int .i64 m1, .int .i64 m2, .string (M.bs H'), .int .i64 m3, .slice bx (cutG K).length ex] 29)).alloc (.cells #[.int .i64 m0, .int .i64 m1, .int .i64 m2, .string (M.bs H'), .int .i64 m3, .slice by' (cutG K).length ey] 32)) w4.heap.size (.int .i64 m0) (.int .i64 m1) (.int .i64 m2) (.string (M.bs H')) (.int .i64 m3) (.slice bx (cutG K).length ex) from (heap_two w4 _ _).1)
  have d4 := hid (show Bt 32 ((w4.alloc (.cells #[.int .i64 m0, .int .i64 m1, .int .i64 m2, .string (M.bs H'), .int .i64 m3, .slice bx (cutG K).length ex] 29)).alloc (.cells #[.int .i64 m0, .int .i64 m1, .int .i64 m2, .string (M.bs H'), .int .i64 m3, .slice by' (cutG K).length ey] 32)) (w4.heap.size + 1) (.int .i64 m0) (.int .i64 m1) (.int .i64 m2) (.string (M.bs H')) (.int .i64 m3) (.slice by' (cutG K).length ey) from (heap_two w4 _ _).2)
  have c5 := hid ((c3.out.bel b4).bel hb5)
  obtain ⟨t0, t1, t2, t3, t4, t5⟩ := c5.out.cells
  have VX := hid ((VX.out.bel b4).bel hb5)
  have VB := hid (vx.bel hb5)
  have VW := hid (vy.bel hb5)
  have bb5 := bb4.tr hb5
  clear vx vy hb5 c3 b4
  go_wp2_with fail
  refine (H2 _ _ VX.out).mono ?_
  rintro e w6 ⟨rfl, b6⟩
  have bb6 := bb5.tr b6
  clear t0 t1 t2 t3 t4 t5
  obtain ⟨t0, t1, t2, t3, t4, t5⟩ := (d3.out.bel b6).cells
  go_wp2_with fail
  refine (H2' _ _ (VB.out.bel b6)).mono ?_
  rintro e w7 ⟨rfl, b7⟩
  have bb7 := bb6.tr b7
  clear t0 t1 t2 t3 t4 t5
  obtain ⟨t0, t1, t2, t3, t4, t5⟩ := ((c5.out.bel b6).bel b7).cells
  obtain ⟨s0, s1, s2, s3, s4, s5⟩ := ((d4.out.bel b6).bel b7).cells
  by_cases hcd : cd = 0
  case neg =>
    have qc : ((cd : Int) != 0) = true := by first | (simp; done) | (simp; omega)
    have qc2 : ¬ ((cd : Int) = 0) := by omega
    go_wp2_with fail
    go_ret
    exact ⟨rfl, bb7⟩
  subst hcd
  by_cases hcd : cd' = 0
  case neg =>
    have qc : ((cd' : Int) != 0) = true := by first | (simp; done) | (simp; omega)
    have qc2 : ¬ ((cd' : Int) = 0) := by omega
    go_wp2_with fail
    go_ret
    exact ⟨rfl, bb7⟩
  subst hcd
  have HI := hid (HI.out rfl rfl)
  have HZ := hid (H4 _ _ _ ((VX.out.bel b6).bel b7) ((VW.out.bel b6).bel b7))
  by_cases hST : S = S'
  · subst hST
    have hr := HI.out.1 rfl
    have HR := hid hr
    clear hr
    go_wp2_with fail
    refine HZ.out.mono ?_
    rintro e w8 ⟨b, rfl, hb, b8⟩
    have hbt : b = true := hb.2 HR.out
    subst hbt
    clear hb
    go_wp2_with fail
    go_ret
    exact ⟨rfl, bb7.tr b8⟩
  · have HR : Hid (¬ _) := fun e => hST (HI.out.2 e)
    have z1 : ¬ (M.bs S = M.bs S') := fun e => hST (by have := congrArg (fun b => b.data.toList) e; simpa [M.bs_data] using this)
    have z3 : ¬ ((M.bs S).toList = (M.bs S').toList) := by rw [M.bs_toList, M.bs_toList]; exact hST
    have z4 : ((M.bs S).toList == (M.bs S').toList) = false := by simp [z3]
    go_wp2_with fail
    refine HZ.out.mono ?_
    rintro e w8 ⟨b, rfl, hb, b8⟩
    have hbt : b = false := by cases b with | false => rfl | true => exact absurd (hb.1 rfl) HR.out
    subst hbt
    clear hb
    go_wp2_with fail
    go_ret
    exact ⟨rfl, bb7.tr b8⟩
end Go.Proofs.Ytaepbmcmggnmpaa
