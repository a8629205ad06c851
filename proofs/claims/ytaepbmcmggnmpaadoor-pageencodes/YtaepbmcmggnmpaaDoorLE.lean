/-
  The law PageEncodes, walked.
-/
import Derived.Test.YtaepbmcmggnmpaaDoorSB
import Derived.Test.YtaepbmcmggnmpaaDoorRN
import Derived.Test.YtaepbmcmggnmpaaDoorI
namespace Go.Proofs.YtaepbmcmggnmpaaDoor
open Go.RowKit
set_option maxRecDepth 100000

theorem M.enc_facts (p : M.Pg) (h : (M.encode p).2 = 0) : M.decodeN (M.encode p).1 = (p, 0) ∧ M.whole (M.encode p).1 = true ∧ (M.lsnL (M.encode p).1 : Int) = p.lsn ∧ M.build p.lsn (M.bodyL (M.encode p).1) = (M.encode p).1 ∧ (M.encode p).1.length ≤ 100000 ∧ (M.bodyL (M.encode p).1).length ≤ 1000000 := by
  refine ⟨M.decodeN_encode p h, ?_⟩
  obtain ⟨hi, hf, he, hb, hl⟩ := M.encode_ok h
  rw [he]
  exact ⟨M.whole_build _ _ hb hl, M.lsnL_build _ _ hb hl, by rw [M.bodyL_build _ _ hb hl], by rw [(M.build_parts _ _ hb hl).1]; decide, by rw [M.bodyL_build _ _ hb hl, hl]; decide⟩
set_option maxHeartbeats 8000000 in
theorem encodes_any (n0 n1 n2 n3 : Int) (hi : List UInt8) (L : List M.En) (a0 : Option Addr) (cap : Nat) (w : World) (hT : Tab w)
    (hv : Vals w (.slice a0 L.length cap) L) (hL : L.length ≤ maxLen) (hu : hi.length ≤ maxLen) (hs : ∀ e ∈ L, e.1.length ≤ maxLen ∧ e.2.1.length ≤ maxLen) (hn : -9223372036854775808 ≤ n0 ∧ n0 ≤ 9223372036854775807) :
    Calls Tryd.prog 3 #[.agg #[.int .i64 n0, .int .i64 n1, .int .i64 n2, .int .i64 n3, .string (M.bs hi), .slice a0 L.length cap]] w fun e w' => e = .returned (.bool true) ∧ Bel w w' := by
  have H1 := fun W h => made_any n0 n1 n2 n3 hi L a0 cap W h hL hu hs
  have hsm := madeP_small n0 n1 n2 n3 hi L
  have H2 := fun W x h t => encode_any (madeP n0 n1 n2 n3 hi L) x W hsm h t hn
  have H3 := fun W x h => rencode_any (madeP n0 n1 n2 n3 hi L) x W hsm h
  have F1 := fun W x h => free_any (madeP n0 n1 n2 n3 hi L) x W hsm h
  have F2 := fun W x h => rfree_any (madeP n0 n1 n2 n3 hi L) x W hsm h
  have H4 := fun W x y hx hy => same_any (madeP n0 n1 n2 n3 hi L) (madeP n0 n1 n2 n3 hi L) x y W hx hy (by have := hsm.es; omega)
  have HD := hid (M.enc_facts (madeP n0 n1 n2 n3 hi L))
  simp only [madeP] at H2 H3 F1 F2 H4 HD
  generalize hi.take 80 = H at *
  generalize (M.encode { lsn := n0, kind := n1, level := n2, right := n3, high := H, es := cut L }).2 = cd at *
  generalize (M.encode { lsn := n0, kind := n1, level := n2, right := n3, high := H, es := cut L }).1 = S at *
  generalize M.free { lsn := n0, kind := n1, level := n2, right := n3, high := H, es := cut L } = FR at *
  have bW : Bel w (w.alloc (.cells #[.int .i64 n0, .int .i64 n1, .int .i64 n2, .int .i64 n3, .string (M.bs hi), .slice a0 L.length cap] 25)) := Bel.al (Below.refl _ _) _
  have g0 : Bt 25 (w.alloc (.cells #[.int .i64 n0, .int .i64 n1, .int .i64 n2, .int .i64 n3, .string (M.bs hi), .slice a0 L.length cap] 25)) w.heap.size (.int .i64 n0) (.int .i64 n1) (.int .i64 n2) (.int .i64 n3) (.string (M.bs hi)) (.slice a0 L.length cap) := heap_alloc_new w _
  have HV := hid (hv.bel bW)
  clear hv hs hL hu hsm
  go_enter Tryd.func3, Tryd.ntmps3
  go_wp2_with fail
  refine (speaks_any _ (hT.bel bW)).mono ?_
  rintro e w1 ⟨rfl, b1⟩
  obtain ⟨s0, s1, s2, s3, s4, s5⟩ := (g0.bel b1).cells
  have bb1 := bW.tr b1
  have hv1 := HV.out.bel b1
  clear g0 HV bW
  go_wp2_with fail
  refine (H1 _ hv1).mono ?_
  rintro e w2 ⟨x, y, rfl, ox, oy, b2⟩
  have vx := ox.vals
  have vy := oy.vals
  obtain ⟨ax, cx, rfl, _⟩ := id vx
  obtain ⟨ay, cy, rfl, _⟩ := id vy
  have bb2 := bb1.tr b2
  clear s0 s1 s2 s3 s4 s5 ox oy H1 hv1
  have hb3 : Bel w2 ((w2.alloc (.cells #[.int .i64 n0, .int .i64 n1, .int .i64 n2, .int .i64 n3, .string (M.bs H), .slice ax (cut L).length cx] 29)).alloc (.cells #[.int .i64 n0, .int .i64 n1, .int .i64 n2, .int .i64 n3, .string (M.bs H), .slice ay (cut L).length cy] 32)) := Bel.al (Bel.al (Below.refl _ _) _) _
  have c3 := hid (show Bt 29 ((w2.alloc (.cells #[.int .i64 n0, .int .i64 n1, .int .i64 n2, .int .i64 n3, .string (M.bs H), .slice ax (cut L).length cx] 29)).alloc (.cells #[.int .i64 n0, .int .i64 n1, .int .i64 n2, .int .i64 n3, .string (M.bs H), .slice ay (cut L).length cy] 32)) (w2.heap.size) (.int .i64 n0) (.int .i64 n1) (.int .i64 n2) (.int .i64 n3) (.string (M.bs H)) (.slice ax (cut L).length cx) from (heap_two w2 _ _).1)
  have d3 := hid (show Bt 32 ((w2.alloc (.cells #[.int .i64 n0, .int .i64 n1, .int .i64 n2, .int .i64 n3, .string (M.bs H), .slice ax (cut L).length cx] 29)).alloc (.cells #[.int .i64 n0, .int .i64 n1, .int .i64 n2, .int .i64 n3, .string (M.bs H), .slice ay (cut L).length cy] 32)) (w2.heap.size + 1) (.int .i64 n0) (.int .i64 n1) (.int .i64 n2) (.int .i64 n3) (.string (M.bs H)) (.slice ay (cut L).length cy) from (heap_two w2 _ _).2)
  obtain ⟨t0, t1, t2, t3, t4, t5⟩ := c3.out.cells
  have VX := hid (vx.bel hb3)
  have VY := hid (vy.bel hb3)
  have bb3 := bb2.tr hb3
  clear vx vy hb3 b2 bb2
  go_wp2_with fail
  refine (H2 _ _ VX.out (hT.bel bb3)).mono ?_
  rintro e w6 ⟨rfl, b6⟩
  have bb6 := bb3.tr b6
  have c6 := hid (c3.out.bel b6)
  have d6 := hid (d3.out.bel b6)
  have VX6 := hid (VX.out.bel b6)
  have VY6 := hid (VY.out.bel b6)
  clear t0 t1 t2 t3 t4 t5 c3 d3 VX VY
  obtain ⟨t0, t1, t2, t3, t4, t5⟩ := d6.out.cells
  go_wp2_with fail
  refine (H3 _ _ VY6.out).mono ?_
  rintro e w7 ⟨rfl, b7⟩
  have bb7 := hid ((bb6.tr b7).dr)
  have c7 := hid (c6.out.bel b7)
  have d7 := hid (d6.out.bel b7)
  have VX7 := hid ((VX6.out.bel b7).bel (Bel.dr (Below.refl _ _)))
  have VY7 := hid ((VY6.out.bel b7).bel (Bel.dr (Below.refl _ _)))
  clear t0 t1 t2 t3 t4 t5 c6 d6 VX6 VY6 b6 b7 bb6 bb3 bb1 b1
  have HC : ∀ W, Bel w7.drew W → (W.cell? ⟨w2.heap.size, 0, none⟩ = some (.int .i64 n0) ∧ W.cell? ⟨w2.heap.size, 1, none⟩ = some (.int .i64 n1) ∧ W.cell? ⟨w2.heap.size, 2, none⟩ = some (.int .i64 n2) ∧ W.cell? ⟨w2.heap.size, 3, none⟩ = some (.int .i64 n3) ∧ W.cell? ⟨w2.heap.size, 4, none⟩ = some (.string (M.bs H)) ∧ W.cell? ⟨w2.heap.size, 5, none⟩ = some (.slice ax (cut L).length cx)) ∧ (W.cell? ⟨w2.heap.size + 1, 0, none⟩ = some (.int .i64 n0) ∧ W.cell? ⟨w2.heap.size + 1, 1, none⟩ = some (.int .i64 n1) ∧ W.cell? ⟨w2.heap.size + 1, 2, none⟩ = some (.int .i64 n2) ∧ W.cell? ⟨w2.heap.size + 1, 3, none⟩ = some (.int .i64 n3) ∧ W.cell? ⟨w2.heap.size + 1, 4, none⟩ = some (.string (M.bs H)) ∧ W.cell? ⟨w2.heap.size + 1, 5, none⟩ = some (.slice ay (cut L).length cy)) :=
    fun W hW => ⟨cells6_of ((hW.block _ c7.out.lt).trans c7.out), cells6_of ((hW.block _ d7.out.lt).trans d7.out)⟩
  have hb0 : Bel w7.drew w7.drew := Below.refl _ _
  have hS := HC _ hb0
  go_wp2_with fail
  go_region_held3 (fun W => (W.cell? ⟨w2.heap.size, 0, none⟩ = some (.int .i64 n0) ∧ W.cell? ⟨w2.heap.size, 1, none⟩ = some (.int .i64 n1) ∧ W.cell? ⟨w2.heap.size, 2, none⟩ = some (.int .i64 n2) ∧ W.cell? ⟨w2.heap.size, 3, none⟩ = some (.int .i64 n3) ∧ W.cell? ⟨w2.heap.size, 4, none⟩ = some (.string (M.bs H)) ∧ W.cell? ⟨w2.heap.size, 5, none⟩ = some (.slice ax (cut L).length cx)) ∧ (W.cell? ⟨w2.heap.size + 1, 0, none⟩ = some (.int .i64 n0) ∧ W.cell? ⟨w2.heap.size + 1, 1, none⟩ = some (.int .i64 n1) ∧ W.cell? ⟨w2.heap.size + 1, 2, none⟩ = some (.int .i64 n2) ∧ W.cell? ⟨w2.heap.size + 1, 3, none⟩ = some (.int .i64 n3) ∧ W.cell? ⟨w2.heap.size + 1, 4, none⟩ = some (.string (M.bs H)) ∧ W.cell? ⟨w2.heap.size + 1, 5, none⟩ = some (.slice ay (cut L).length cy)))
    (first | assumption | exact HC _ hb0)
    (first
      | (go_at_call 15; refine (F1 _ _ (VX7.out.bel hb0)).mono ?_; rintro e w8 ⟨rfl, b8⟩; have hb0 := hb0.tr b8)
      | (go_at_call 16; refine (F2 _ _ (VY7.out.bel hb0)).mono ?_; rintro e w8 ⟨rfl, b8⟩; have hb0 := hb0.tr b8))
  have HB8 := hid hb0
  clear hb0 hS
  by_cases hcd : cd = 0
  case neg =>
    have qc : ((cd : Int) != 0) = true := by first | (simp; done) | (simp; omega)
    have qc2 : ¬ ((cd : Int) = 0) := by omega
    go_wp2_with fail
    go_ret
    exact ⟨rfl, bb7.out.tr HB8.out⟩
  subst hcd
  obtain ⟨q1, q2, q3, q4, q5, q6⟩ := HD.out rfl
  have HDC := fun W t => decode_any S W t q5
  rw [q1] at HDC
  simp only [pv] at HDC
  have HW := fun W t => whole_any S W t q5
  rw [q2] at HW
  have HLS := fun W => lsn_any S W
  rw [q3] at HLS
  have HBO := fun W => body_any S W
  have HBU := fun W t => build_any n0 (M.bodyL S) W t q6 hn
  rw [q4] at HBU
  clear q1 q2 q3 q4 q5 q6 HD
  generalize M.bodyL S = BD at *
  have bb8 := bb7.out.tr HB8.out
  go_wp2_with fail
  refine (HDC _ (hT.bel bb8)).mono ?_
  rintro e w10 ⟨v, rfl, vv, b10⟩
  obtain ⟨dx, fx, rfl, _⟩ := id vv
  have bA : Bel w10 (w10.alloc (.cells #[.int .i64 n0, .int .i64 n1, .int .i64 n2, .int .i64 n3, .string (M.bs H), .slice dx (cut L).length fx] 29)) := Bel.al (Below.refl _ _) _
  have e11 := hid (show Bt 29 (w10.alloc (.cells #[.int .i64 n0, .int .i64 n1, .int .i64 n2, .int .i64 n3, .string (M.bs H), .slice dx (cut L).length fx] 29)) (w10.heap.size) (.int .i64 n0) (.int .i64 n1) (.int .i64 n2) (.int .i64 n3) (.string (M.bs H)) (.slice dx (cut L).length fx) from heap_alloc_new w10 _)
  have c11 := hid (((c7.out.bel (Bel.dr (Below.refl _ _))).bel HB8.out).bel (b10.tr bA))
  have d11 := hid (((d7.out.bel (Bel.dr (Below.refl _ _))).bel HB8.out).bel (b10.tr bA))
  have bb11 := hid ((bb8.tr b10).tr bA)
  have VP := hid (vv.bel bA)
  have VW := hid ((VY7.out.bel HB8.out).bel (b10.tr bA))
  clear c7 d7 VX7 VY7 HB8 bb7 bb8 vv HC HDC
  go_wp2_with fail
  generalize w10.alloc (.cells #[.int .i64 n0, .int .i64 n1, .int .i64 n2, .int .i64 n3, .string (M.bs H), .slice dx (cut L).length fx] 29) = W1 at *
  have HC : ∀ W, Bel W1.drew W → (W.cell? ⟨w2.heap.size, 0, none⟩ = some (.int .i64 n0) ∧ W.cell? ⟨w2.heap.size, 1, none⟩ = some (.int .i64 n1) ∧ W.cell? ⟨w2.heap.size, 2, none⟩ = some (.int .i64 n2) ∧ W.cell? ⟨w2.heap.size, 3, none⟩ = some (.int .i64 n3) ∧ W.cell? ⟨w2.heap.size, 4, none⟩ = some (.string (M.bs H)) ∧ W.cell? ⟨w2.heap.size, 5, none⟩ = some (.slice ax (cut L).length cx)) ∧ (W.cell? ⟨w2.heap.size + 1, 0, none⟩ = some (.int .i64 n0) ∧ W.cell? ⟨w2.heap.size + 1, 1, none⟩ = some (.int .i64 n1) ∧ W.cell? ⟨w2.heap.size + 1, 2, none⟩ = some (.int .i64 n2) ∧ W.cell? ⟨w2.heap.size + 1, 3, none⟩ = some (.int .i64 n3) ∧ W.cell? ⟨w2.heap.size + 1, 4, none⟩ = some (.string (M.bs H)) ∧ W.cell? ⟨w2.heap.size + 1, 5, none⟩ = some (.slice ay (cut L).length cy)) ∧ (W.cell? ⟨w10.heap.size, 0, none⟩ = some (.int .i64 n0) ∧ W.cell? ⟨w10.heap.size, 1, none⟩ = some (.int .i64 n1) ∧ W.cell? ⟨w10.heap.size, 2, none⟩ = some (.int .i64 n2) ∧ W.cell? ⟨w10.heap.size, 3, none⟩ = some (.int .i64 n3) ∧ W.cell? ⟨w10.heap.size, 4, none⟩ = some (.string (M.bs H)) ∧ W.cell? ⟨w10.heap.size, 5, none⟩ = some (.slice dx (cut L).length fx)) :=
    fun W hW => ⟨cells6_of ((hW.block _ c11.out.lt).trans c11.out), cells6_of ((hW.block _ d11.out.lt).trans d11.out), cells6_of ((hW.block _ e11.out.lt).trans e11.out)⟩
  have VP1 := hid (VP.out.bel (Bel.dr (Below.refl _ _)))
  have VW1 := hid (VW.out.bel (Bel.dr (Below.refl _ _)))
  have bT1 := hid (bb11.out.dr)
  have H5 : ∀ W, Bel W1.drew W → Calls Tryd.prog 18 #[.agg #[.int .i64 n0, .int .i64 n1, .int .i64 n2, .int .i64 n3, .string (M.bs H), .slice dx (cut L).length fx], .agg #[.int .i64 n0, .int .i64 n1, .int .i64 n2, .int .i64 n3, .string (M.bs H), .slice ay (cut L).length cy]] W fun e w' => e = .returned (.bool true) ∧ Bel W w' := fun W h => by
    refine (H4 W _ _ (VP1.out.bel h) (VW1.out.bel h)).mono ?_
    rintro e w' ⟨b, rfl, hb, hw⟩
    rw [hb.2 trivial]
    exact ⟨rfl, hw⟩
  have hb0 : Bel W1.drew W1.drew := Below.refl _ _
  have hS := HC _ hb0
  go_region_held3 (fun W => (W.cell? ⟨w2.heap.size, 0, none⟩ = some (.int .i64 n0) ∧ W.cell? ⟨w2.heap.size, 1, none⟩ = some (.int .i64 n1) ∧ W.cell? ⟨w2.heap.size, 2, none⟩ = some (.int .i64 n2) ∧ W.cell? ⟨w2.heap.size, 3, none⟩ = some (.int .i64 n3) ∧ W.cell? ⟨w2.heap.size, 4, none⟩ = some (.string (M.bs H)) ∧ W.cell? ⟨w2.heap.size, 5, none⟩ = some (.slice ax (cut L).length cx)) ∧ (W.cell? ⟨w2.heap.size + 1, 0, none⟩ = some (.int .i64 n0) ∧ W.cell? ⟨w2.heap.size + 1, 1, none⟩ = some (.int .i64 n1) ∧ W.cell? ⟨w2.heap.size + 1, 2, none⟩ = some (.int .i64 n2) ∧ W.cell? ⟨w2.heap.size + 1, 3, none⟩ = some (.int .i64 n3) ∧ W.cell? ⟨w2.heap.size + 1, 4, none⟩ = some (.string (M.bs H)) ∧ W.cell? ⟨w2.heap.size + 1, 5, none⟩ = some (.slice ay (cut L).length cy)) ∧ (W.cell? ⟨w10.heap.size, 0, none⟩ = some (.int .i64 n0) ∧ W.cell? ⟨w10.heap.size, 1, none⟩ = some (.int .i64 n1) ∧ W.cell? ⟨w10.heap.size, 2, none⟩ = some (.int .i64 n2) ∧ W.cell? ⟨w10.heap.size, 3, none⟩ = some (.int .i64 n3) ∧ W.cell? ⟨w10.heap.size, 4, none⟩ = some (.string (M.bs H)) ∧ W.cell? ⟨w10.heap.size, 5, none⟩ = some (.slice dx (cut L).length fx)))
    (first | assumption | exact HC _ hb0)
    (first
      | (go_at_call 18; refine (H5 _ hb0).mono ?_; rintro e w8 ⟨rfl, b8⟩; have hb0 := hb0.tr b8)
      | (go_at_call 19; refine (HW _ (hT.bel (bT1.out.tr hb0))).mono ?_; rintro e w8 ⟨rfl, b8⟩; have hb0 := hb0.tr b8)
      | (go_at_call 20; refine (HLS _).mono ?_; rintro e w8 ⟨rfl, rfl⟩)
      | (go_at_call 22; refine (HBO _).mono ?_; rintro e w8 ⟨rfl, rfl⟩)
      | (go_at_call 21; refine (HBU _ (hT.bel (bT1.out.tr hb0))).mono ?_; rintro e w8 ⟨rfl, b8⟩; have hb0 := hb0.tr b8))
  go_wp2_with fail
  go_ret
  exact ⟨rfl, bT1.out.tr hb0⟩
end Go.Proofs.YtaepbmcmggnmpaaDoor
