/-
  The contract of the law's 'made', walked.
-/
import Derived.Test.YtaepbmcmggnmpaaDoorMS
import Derived.Deep.CutRange
namespace Go.Proofs.YtaepbmcmggnmpaaDoor
open Go.RowKit
set_option maxRecDepth 100000

theorem wp_last {P : Program} {s : Code} {Q : Exit → Act → World → Prop} {a : Act} {w : World} (h : ∀ K : Act → World → Prop, (∀ a' w', Q .normal a' w' → K a' w') → s.wp P (Exit.then K Q) a w) : s.wp P Q a w := by
  refine wp_mono (h (Q .normal) (fun _ _ q => q)) ?_
  intro e a' w' hq
  cases e <;> exact hq

set_option maxRecDepth 100000 in
set_option maxHeartbeats 20000000 in
theorem made_some (n0 n1 n2 n3 : Int) (hi : List UInt8) (L : List M.En) (b off cap : Nat) (w : World) (hv : Row3 w b off L) (hL : 0 < L.length) (hL2 : L.length ≤ maxLen) (hh : hi.length ≤ maxLen) (hs : ∀ e ∈ L, e.1.length ≤ maxLen ∧ e.2.1.length ≤ maxLen) :
    Calls Tryd.prog 12 #[.agg #[.int .i64 n0, .int .i64 n1, .int .i64 n2, .int .i64 n3, .string (M.bs hi), .slice (some ⟨b, off, none⟩) L.length cap]] w fun e w' => ∃ x y,
      e = .returned (.tuple #[.agg #[.int .i64 n0, .int .i64 n1, .int .i64 n2, .int .i64 n3, .string (M.bs (hi.take 80)), x], .agg #[.int .i64 n0, .int .i64 n1, .int .i64 n2, .int .i64 n3, .string (M.bs (hi.take 80)), y]]) ∧
        OwnE 71 w' w.heap.size x (cut L) ∧ OwnE 88 w' w.heap.size y (cut L) ∧ Bel w w' := by
  unfold maxLen at hL2 hs hh
  have hbw := hv.lt hL
  have hz : (M.bs hi).size = hi.length := M.bs_size hi
  have hce : (M.bs hi).extract 0 (min (hi.length : Int) 80).toNat = M.bs (hi.take 80) := cut_eq hi 80
  have q1 : (0 : Int) ≤ min (hi.length : Int) 80 := by omega
  have q2 : min (hi.length : Int) 80 ≤ (hi.length : Int) := by omega
  generalize hi.take 80 = H at *
  go_enter Tryd.func12, Tryd.ntmps12
  go_wp2_with fail
  obtain ⟨W0, hW0⟩ : ∃ W0, W0 = (((((w.alloc (.cells #[.int .i64 n0, .int .i64 n1, .int .i64 n2, .int .i64 n3, .string (M.bs hi), .slice (some ⟨b, off, none⟩) L.length cap] 25)).alloc (.cells #[.int .i64 0, .int .i64 0, .int .i64 0, .int .i64 0, .string ⟨#[]⟩, .slice none 0 0] 29)).alloc (.cells #[.int .i64 0, .int .i64 0, .int .i64 0, .int .i64 0, .string ⟨#[]⟩, .slice none 0 0] 32)).alloc (.cells #[.int .i64 n0, .int .i64 n1, .int .i64 n2, .int .i64 n3, .string (M.bs H), .slice none 0 0] 29)).alloc (.cells #[.int .i64 n0, .int .i64 n1, .int .i64 n2, .int .i64 n3, .string (M.bs H), .slice none 0 0] 32)) := ⟨_, rfl⟩
  rw [← hW0]
  have bW : Bel w W0 := by rw [hW0]; exact Bel.al (Bel.al (Bel.al (Bel.al (Bel.al (Below.refl _ _) _) _) _) _) _
  have a0 : Bt 25 W0 w.heap.size (.int .i64 n0) (.int .i64 n1) (.int .i64 n2) (.int .i64 n3) (.string (M.bs hi)) (.slice (some ⟨b, off, none⟩) L.length cap) := by
    rw [hW0]
    exact Bt.bel (heap_alloc_new w _) (Bel.al (Bel.al (Bel.al (Bel.al (Below.refl _ _) _) _) _) _)
  have a1 : Bt 29 W0 (w.heap.size + 1) (.int .i64 0) (.int .i64 0) (.int .i64 0) (.int .i64 0) (.string ⟨#[]⟩) (.slice none 0 0) := by
    rw [hW0]
    refine Bt.bel (w := (w.alloc _).alloc _) ?_ (Bel.al (Bel.al (Bel.al (Below.refl _ _) _) _) _)
    have := heap_alloc_new (w.alloc (.cells #[.int .i64 n0, .int .i64 n1, .int .i64 n2, .int .i64 n3, .string (M.bs hi), .slice (some ⟨b, off, none⟩) L.length cap] 25)) (.cells #[.int .i64 0, .int .i64 0, .int .i64 0, .int .i64 0, .string ⟨#[]⟩, .slice none 0 0] 29)
    rw [World.size_alloc] at this
    exact this
  have a2 : Bt 32 W0 (w.heap.size + 1 + 1) (.int .i64 0) (.int .i64 0) (.int .i64 0) (.int .i64 0) (.string ⟨#[]⟩) (.slice none 0 0) := by
    rw [hW0]
    refine Bt.bel (w := ((w.alloc _).alloc _).alloc _) ?_ (Bel.al (Bel.al (Below.refl _ _) _) _)
    have := heap_alloc_new ((w.alloc (.cells #[.int .i64 n0, .int .i64 n1, .int .i64 n2, .int .i64 n3, .string (M.bs hi), .slice (some ⟨b, off, none⟩) L.length cap] 25)).alloc (.cells #[.int .i64 0, .int .i64 0, .int .i64 0, .int .i64 0, .string ⟨#[]⟩, .slice none 0 0] 29)) (.cells #[.int .i64 0, .int .i64 0, .int .i64 0, .int .i64 0, .string ⟨#[]⟩, .slice none 0 0] 32)
    rw [World.size_alloc, World.size_alloc] at this
    exact this
  have a3 : Bt 29 W0 (w.heap.size + 1 + 1 + 1) (.int .i64 n0) (.int .i64 n1) (.int .i64 n2) (.int .i64 n3) (.string (M.bs H)) (.slice none 0 0) := by
    rw [hW0]
    refine Bt.bel (w := (((w.alloc _).alloc _).alloc _).alloc _) ?_ (Bel.al (Below.refl _ _) _)
    have := heap_alloc_new (((w.alloc (.cells #[.int .i64 n0, .int .i64 n1, .int .i64 n2, .int .i64 n3, .string (M.bs hi), .slice (some ⟨b, off, none⟩) L.length cap] 25)).alloc (.cells #[.int .i64 0, .int .i64 0, .int .i64 0, .int .i64 0, .string ⟨#[]⟩, .slice none 0 0] 29)).alloc (.cells #[.int .i64 0, .int .i64 0, .int .i64 0, .int .i64 0, .string ⟨#[]⟩, .slice none 0 0] 32)) (.cells #[.int .i64 n0, .int .i64 n1, .int .i64 n2, .int .i64 n3, .string (M.bs H), .slice none 0 0] 29)
    rw [World.size_alloc, World.size_alloc, World.size_alloc] at this
    exact this
  have a4 : Bt 32 W0 (w.heap.size + 1 + 1 + 1 + 1) (.int .i64 n0) (.int .i64 n1) (.int .i64 n2) (.int .i64 n3) (.string (M.bs H)) (.slice none 0 0) := by
    rw [hW0]
    have := heap_alloc_new ((((w.alloc (.cells #[.int .i64 n0, .int .i64 n1, .int .i64 n2, .int .i64 n3, .string (M.bs hi), .slice (some ⟨b, off, none⟩) L.length cap] 25)).alloc (.cells #[.int .i64 0, .int .i64 0, .int .i64 0, .int .i64 0, .string ⟨#[]⟩, .slice none 0 0] 29)).alloc (.cells #[.int .i64 0, .int .i64 0, .int .i64 0, .int .i64 0, .string ⟨#[]⟩, .slice none 0 0] 32)).alloc (.cells #[.int .i64 n0, .int .i64 n1, .int .i64 n2, .int .i64 n3, .string (M.bs H), .slice none 0 0] 29)) (.cells #[.int .i64 n0, .int .i64 n1, .int .i64 n2, .int .i64 n3, .string (M.bs H), .slice none 0 0] 32)
    rw [World.size_alloc, World.size_alloc, World.size_alloc, World.size_alloc] at this
    exact this
  clear hW0 hz hce q1 q2
  go_loopw [7] (fun i wr => ∃ (k : Nat) (x y : Value), k ≤ L.length ∧ k ≤ 200 ∧ i = .int .i64 k ∧ OwnE 71 wr w.heap.size x (cut (L.take k)) ∧ OwnE 88 wr w.heap.size y (cut (L.take k)) ∧
      Bt 25 wr w.heap.size (.int .i64 n0) (.int .i64 n1) (.int .i64 n2) (.int .i64 n3) (.string (M.bs hi)) (.slice (some ⟨b, off, none⟩) L.length cap) ∧
      Bt 29 wr (w.heap.size + 1) (.int .i64 0) (.int .i64 0) (.int .i64 0) (.int .i64 0) (.string ⟨#[]⟩) (.slice none 0 0) ∧
      Bt 32 wr (w.heap.size + 1 + 1) (.int .i64 0) (.int .i64 0) (.int .i64 0) (.int .i64 0) (.string ⟨#[]⟩) (.slice none 0 0) ∧
      Bt 29 wr (w.heap.size + 1 + 1 + 1) (.int .i64 n0) (.int .i64 n1) (.int .i64 n2) (.int .i64 n3) (.string (M.bs H)) x ∧
      Bt 32 wr (w.heap.size + 1 + 1 + 1 + 1) (.int .i64 n0) (.int .i64 n1) (.int .i64 n2) (.int .i64 n3) (.string (M.bs H)) y ∧ Bel w wr) (fun i _ => 200 - (intOf i).toNat)
  case atStart => exact ⟨0, _, _, by omega, by omega, rfl, OwnE.nil _ _ _, OwnE.nil _ _ _, a0, a1, a2, a3, a4, bW⟩
  case round =>
    clear a0 a1 a2 a3 a4 bW
    obtain ⟨k, x, y, hk, hk200, rfl, hx, hy, g0, g1, g2, g3, g4, hb⟩ := hrel
    obtain ⟨ax, cx, hxf, _⟩ := id hx.vals
    obtain ⟨ay, cy, hyf, _⟩ := id hy.vals
    subst hxf hyf
    by_cases hlt : k < L.length
    · by_cases hlt2 : k < 200
      · obtain ⟨c1, c2, c3⟩ := (hv.below hb hbw) k hlt
        have ht := hs L[k] (List.getElem_mem hlt)
        have HC : Hid (cut (L.take (k + 1)) = cut (L.take k) ++ [cut1 L[k]]) := by
          show _ = _
          unfold cut
          rw [List.take_of_length_le (l := L.take (k + 1)) (by rw [List.length_take]; omega), List.take_of_length_le (l := L.take k) (by rw [List.length_take]; omega), List.take_succ_eq_append_getElem hlt, List.map_append]; rfl
        generalize L[k] = e at *
        obtain ⟨ek, evl, em⟩ := e
        have z1 : (M.bs ek).size = ek.length := M.bs_size ek
        have z2 : (M.bs evl).size = evl.length := M.bs_size evl
        simp only at ht c1 c2 c3
        clear hs hv
        have HX := hid hx
        have HY := hid hy
        have G0 := hid g0
        have G1 := hid g1
        have G2 := hid g2
        have G3 := hid g3
        have G4 := hid g4
        have s5 := g0.cells.2.2.2.2.2
        clear hx hy g0 g1 g2 g3 g4
        have hc1 : (M.bs ek).extract 0 (min (ek.length : Int) 80).toNat = M.bs (ek.take 80) := cut_eq ek 80
        have hc2 : (M.bs evl).extract 0 (min (evl.length : Int) 120).toNat = M.bs (evl.take 120) := cut_eq evl 120
        have HT : Hid (cut1 (ek, evl, em) = (ek.take 80, evl.take 120, em)) := rfl
        generalize ek.take 80 = K1 at *
        generalize evl.take 120 = V1 at *
        have hbr : b < wr.heap.size := Nat.lt_of_lt_of_le hbw hb.size
        have d1 : ∀ o, (wr.alloc o).cell? ⟨b, off + k * 3, none⟩ = some (.string (M.bs ek)) := fun o => (bel_cell (Bel.al (Below.refl _ wr) o) hbr _).trans c1
        have d2 : ∀ o, (wr.alloc o).cell? ⟨b, off + k * 3 + 1, none⟩ = some (.string (M.bs evl)) := fun o => (bel_cell (Bel.al (Below.refl _ wr) o) hbr _).trans c2
        have d3 : ∀ o, (wr.alloc o).cell? ⟨b, off + k * 3 + 2, none⟩ = some (.bool em) := fun o => (bel_cell (Bel.al (Below.refl _ wr) o) hbr _).trans c3
        have q1 : (0 : Int) ≤ min (ek.length : Int) 80 := by omega
        have q2 : min (ek.length : Int) 80 ≤ (ek.length : Int) := by omega
        have q3 : (0 : Int) ≤ min (evl.length : Int) 120 := by omega
        have q4 : min (evl.length : Int) 120 ≤ (evl.length : Int) := by omega
        go_wp2_with fail
        go_region
        have bW : Bel wr (wr.alloc (.cells #[.string (M.bs K1), .string (M.bs V1), .bool em] 88)).drew := (Bel.al (Below.refl _ _) _).dr
        have ee : B3 (wr.alloc (.cells #[.string (M.bs K1), .string (M.bs V1), .bool em] 88)).drew wr.heap.size 88 (.string (M.bs K1)) (.string (M.bs V1)) (.bool em) := heap_alloc_new wr _
        generalize (wr.alloc (.cells #[.string (M.bs K1), .string (M.bs V1), .bool em] 88)).drew = W1 at *
        have hx := hid (HX.out.bel bW)
        have hy := hid (HY.out.bel bW)
        have g0 := hid (G0.out.bel bW)
        have g1 := hid (G1.out.bel bW)
        have g2 := hid (G2.out.bel bW)
        have g3 := hid (G3.out.bel bW)
        have g4 := hid (G4.out.bel bW)
        have ee := hid ee
        have hbb := hid (hb.tr bW)
        have hbz := hb.size
        have hcl : (cut (L.take k)).length ≤ 100000 := by have := cut_length (L.take k); omega
        have nxe : some wr.heap.size ≠ (Value.slice ax (cut (L.take k)).length cx).ownBlock := fun e => by have := (World.ownsRow.lt HX.out _ e.symm).2; omega
        have nye : some wr.heap.size ≠ (Value.slice ay (cut (L.take k)).length cy).ownBlock := fun e => by have := (World.ownsRow.lt HY.out _ e.symm).2; omega
        generalize cut (L.take k) = C at *
        clear c1 c2 c3 d1 d2 d3 hc1 hc2 q1 q2 q3 q4 z1 z2 ht bW HX HY G0 G1 G2 G3 G4 s5
        go_wp2_with fail
        refine wp_last ?_
        intro KK hKK
        go_cut [7] from 44 to 87 (fun s7 wx => s7 = .int .i64 (k : Int) ∧ ∃ (ao5 ao6 : Option Addr) (cp5 cp6 : Nat), OwnE 71 wx w.heap.size (.slice ao5 (C.length + 1) cp5) (C ++ [(K1, V1, em)]) ∧ OwnE 88 wx w.heap.size (.slice ao6 (C.length + 1) cp6) (C ++ [(K1, V1, em)]) ∧
            Bt 25 wx w.heap.size (.int .i64 n0) (.int .i64 n1) (.int .i64 n2) (.int .i64 n3) (.string (M.bs hi)) (.slice (some ⟨b, off, none⟩) L.length cap) ∧
            Bt 29 wx (w.heap.size + 1) (.int .i64 0) (.int .i64 0) (.int .i64 0) (.int .i64 0) (.string ⟨#[]⟩) (.slice none 0 0) ∧
            Bt 32 wx (w.heap.size + 1 + 1) (.int .i64 0) (.int .i64 0) (.int .i64 0) (.int .i64 0) (.string ⟨#[]⟩) (.slice none 0 0) ∧
            Bt 29 wx (w.heap.size + 1 + 1 + 1) (.int .i64 n0) (.int .i64 n1) (.int .i64 n2) (.int .i64 n3) (.string (M.bs H)) (.slice ao5 (C.length + 1) cp5) ∧
            Bt 32 wx (w.heap.size + 1 + 1 + 1 + 1) (.int .i64 n0) (.int .i64 n1) (.int .i64 n2) (.int .i64 n3) (.string (M.bs H)) (.slice ao6 (C.length + 1) cp6) ∧ Bel w wx)
        case first =>
          refine reg9 _ _ _ _ _ _ _ _ _ _ _ _ _ _ _ _ _ _ _ _ _ _ _ _ _ _ _ _ _ _ _ _ _ _ _ _ _ _ _ _ _ _ _ _ _ _ _ _ _ _ _ _ _ _ _ _ _ _ _ _ _ _ _ _ _ _ _ _ _ _ _ _ _ _ _ _ _ _ _ _ _ _ _ _ _ _ _ (w.heap.size + 1 + 1 + 1) (w.heap.size + 1 + 1 + 1 + 1) wr.heap.size K1 V1 em ax ay C.length C.length cx cy (C.flatMap cells3) (C.flatMap cells3) _ _ w.heap.size W1 hcl hcl (by omega) (by omega) (by omega) hx.out hy.out g3.out g4.out rfl rfl ee.out nxe nye _ _ ?_
          intro x76 x77 x78 x79 x80 x81 x82 x83 x84 x85 x86 x87 wx hrel
          obtain ⟨ao5, ao6, cp5, cp6, f1, f2, f3, f4, f5⟩ := hrel
          have X : OwnE 71 wx w.heap.size (.slice ao5 (C.length + 1) cp5) (C ++ [(K1, V1, em)]) := by unfold OwnE; simpa [cells3] using f1
          have Y : OwnE 88 wx w.heap.size (.slice ao6 (C.length + 1) cp6) (C ++ [(K1, V1, em)]) := by unfold OwnE; simpa [cells3] using f2
          have e0 := f5.bt hx.out hy.out g0.out (by decide) (by decide) (by omega) (by omega)
          have e1 := f5.bt hx.out hy.out g1.out (by decide) (by decide) (by omega) (by omega)
          have e2 := f5.bt hx.out hy.out g2.out (by decide) (by decide) (by omega) (by omega)
          have eb := hbb.out.trans f5.below
          have RR := hid (And.intro X (And.intro Y (And.intro e0 (And.intro e1 (And.intro e2 (And.intro f3 (And.intro f4 eb)))))))
          clear X Y e0 e1 e2 eb f1 f2 f3 f4 f5
          go_wp2_with fail
          go_meet
          case rel =>
            obtain ⟨r1, r2, r3, r4, r5, r6, r7, r8⟩ := RR.out
            exact ⟨rfl, ao5, ao6, cp5, cp6, r1, r2, r3, r4, r5, r6, r7, r8⟩
        case rest =>
          obtain ⟨rfl, ao5, ao6, cp5, cp6, X, Y, P0, P1, P2, P3, P4, PB⟩ := hcut
          refine hKK _ _ ?_
          go_wp2_with fail
          go_roundw
          case rel => exact ⟨k + 1, _, _, by omega, by omega, by go_num, by rw [HC.out, HT.out]; exact X, by rw [HC.out, HT.out]; exact Y, P0, P1, P2, P3, P4, PB⟩
          case measure => simp [intOf]; omega
      · have HE : Hid (cut (L.take k) = cut L) := by
          show _ = _
          unfold cut; rw [List.take_take, show min 200 k = 200 by omega]
        have hbz := hb.size
        have nx1 := hx.ne g1 (by decide)
        have nx2 := hx.ne g2 (by decide)
        have ny1 := hy.ne g1 (by decide)
        have ny2 := hy.ne g2 (by decide)
        have s5 := g0.cells.2.2.2.2.2
        obtain ⟨s30, s31, s32, s33, s34, s35⟩ := g3.cells
        obtain ⟨s40, s41, s42, s43, s44, s45⟩ := g4.cells
        obtain ⟨s10, s11, s12, s13, s14, s15⟩ := g1.cells
        obtain ⟨s20, s21, s22, s23, s24, s25⟩ := g2.cells
        have f10 := g1.froz 0
        have f20 := g2.froz 0
        have f11 := g1.froz 1
        have f21 := g2.froz 1
        have f12 := g1.froz 2
        have f22 := g2.froz 2
        have f13 := g1.froz 3
        have f23 := g2.froz 3
        have f14 := g1.froz 4
        have f24 := g2.froz 4
        have f15 := g1.froz 5
        have f25 := g2.froz 5
        have HX := hid hx
        have HY := hid hy
        have HG1 := hid g1
        have HG2 := hid g2
        have HB := hid hb
        clear hx hy g0 g1 g2 g3 g4 hv hs
        go_wp2_with fail
        go_region
        all_goals
          clear s5 s30 s31 s32 s33 s34 s35 s40 s41 s42 s43 s44 s45 s10 s11 s12 s13 s14 s15 s20 s21 s22 s23 s24 s25 f10 f11 f12 f13 f14 f15 f20 f21 f22 f23 f24 f25
          go_wp2_with fail
          have x := ((HX.out.six nx1 (.int .i64 n0) (.int .i64 n1) (.int .i64 n2) (.int .i64 n3) (.string (M.bs H)) (.slice ax (cut (L.take k)).length cx)).six nx2 (.int .i64 n0) (.int .i64 n1) (.int .i64 n2) (.int .i64 n3) (.string (M.bs H)) (.slice ay (cut (L.take k)).length cy))
          have y := ((HY.out.six ny1 (.int .i64 n0) (.int .i64 n1) (.int .i64 n2) (.int .i64 n3) (.string (M.bs H)) (.slice ax (cut (L.take k)).length cx)).six ny2 (.int .i64 n0) (.int .i64 n1) (.int .i64 n2) (.int .i64 n3) (.string (M.bs H)) (.slice ay (cut (L.take k)).length cy))
          have p1 := ((HG1.out.six (.int .i64 n0) (.int .i64 n1) (.int .i64 n2) (.int .i64 n3) (.string (M.bs H)) (.slice ax (cut (L.take k)).length cx)).sixOther (show w.heap.size + 1 ≠ w.heap.size + 1 + 1 by omega) (.int .i64 n0) (.int .i64 n1) (.int .i64 n2) (.int .i64 n3) (.string (M.bs H)) (.slice ay (cut (L.take k)).length cy))
          have p2 := ((HG2.out.sixOther (show w.heap.size + 1 + 1 ≠ w.heap.size + 1 by omega) (.int .i64 n0) (.int .i64 n1) (.int .i64 n2) (.int .i64 n3) (.string (M.bs H)) (.slice ax (cut (L.take k)).length cx)).six (.int .i64 n0) (.int .i64 n1) (.int .i64 n2) (.int .i64 n3) (.string (M.bs H)) (.slice ay (cut (L.take k)).length cy))
          have pb := ((HB.out.six (show w.heap.size ≤ w.heap.size + 1 by omega) (.int .i64 n0) (.int .i64 n1) (.int .i64 n2) (.int .i64 n3) (.string (M.bs H)) (.slice ax (cut (L.take k)).length cx)).six (show w.heap.size ≤ w.heap.size + 1 + 1 by omega) (.int .i64 n0) (.int .i64 n1) (.int .i64 n2) (.int .i64 n3) (.string (M.bs H)) (.slice ay (cut (L.take k)).length cy))
          rw [six, six] at x y p1 p2 pb
          generalize World.setCell _ ⟨w.heap.size + 1 + 1, 5, none⟩ (.slice ay (cut (L.take k)).length cy) = W9 at *
          obtain ⟨z0, z1, z2, z3, z4, z5⟩ := p1.cells
          obtain ⟨v0, v1, v2, v3, v4, v5⟩ := p2.cells
          rw [HE.out] at *
          refine bodyPost_ret (v := .tuple #[.agg #[.int .i64 n0, .int .i64 n1, .int .i64 n2, .int .i64 n3, .string (M.bs H), .slice ax (cut L).length cx], .agg #[.int .i64 n0, .int .i64 n1, .int .i64 n2, .int .i64 n3, .string (M.bs H), .slice ay (cut L).length cy]]) (by simp [results, Tryd.results12, go_sem, z0, z1, z2, z3, z4, z5, v0, v1, v2, v3, v4, v5]) rfl ⟨_, _, rfl, x, y, pb.dr⟩
    · have HE : Hid (cut (L.take k) = cut L) := by
        show _ = _
        rw [List.take_of_length_le (by omega)]
      have hbz := hb.size
      have nx1 := hx.ne g1 (by decide)
      have nx2 := hx.ne g2 (by decide)
      have ny1 := hy.ne g1 (by decide)
      have ny2 := hy.ne g2 (by decide)
      have s5 := g0.cells.2.2.2.2.2
      obtain ⟨s30, s31, s32, s33, s34, s35⟩ := g3.cells
      obtain ⟨s40, s41, s42, s43, s44, s45⟩ := g4.cells
      obtain ⟨s10, s11, s12, s13, s14, s15⟩ := g1.cells
      obtain ⟨s20, s21, s22, s23, s24, s25⟩ := g2.cells
      have f10 := g1.froz 0
      have f20 := g2.froz 0
      have f11 := g1.froz 1
      have f21 := g2.froz 1
      have f12 := g1.froz 2
      have f22 := g2.froz 2
      have f13 := g1.froz 3
      have f23 := g2.froz 3
      have f14 := g1.froz 4
      have f24 := g2.froz 4
      have f15 := g1.froz 5
      have f25 := g2.froz 5
      have HX := hid hx
      have HY := hid hy
      have HG1 := hid g1
      have HG2 := hid g2
      have HB := hid hb
      clear hx hy g0 g1 g2 g3 g4 hv hs
      go_wp2_with fail
      go_region
      all_goals
        clear s5 s30 s31 s32 s33 s34 s35 s40 s41 s42 s43 s44 s45 s10 s11 s12 s13 s14 s15 s20 s21 s22 s23 s24 s25 f10 f11 f12 f13 f14 f15 f20 f21 f22 f23 f24 f25
        go_wp2_with fail
        have x := ((HX.out.six nx1 (.int .i64 n0) (.int .i64 n1) (.int .i64 n2) (.int .i64 n3) (.string (M.bs H)) (.slice ax (cut (L.take k)).length cx)).six nx2 (.int .i64 n0) (.int .i64 n1) (.int .i64 n2) (.int .i64 n3) (.string (M.bs H)) (.slice ay (cut (L.take k)).length cy))
        have y := ((HY.out.six ny1 (.int .i64 n0) (.int .i64 n1) (.int .i64 n2) (.int .i64 n3) (.string (M.bs H)) (.slice ax (cut (L.take k)).length cx)).six ny2 (.int .i64 n0) (.int .i64 n1) (.int .i64 n2) (.int .i64 n3) (.string (M.bs H)) (.slice ay (cut (L.take k)).length cy))
        have p1 := ((HG1.out.six (.int .i64 n0) (.int .i64 n1) (.int .i64 n2) (.int .i64 n3) (.string (M.bs H)) (.slice ax (cut (L.take k)).length cx)).sixOther (show w.heap.size + 1 ≠ w.heap.size + 1 + 1 by omega) (.int .i64 n0) (.int .i64 n1) (.int .i64 n2) (.int .i64 n3) (.string (M.bs H)) (.slice ay (cut (L.take k)).length cy))
        have p2 := ((HG2.out.sixOther (show w.heap.size + 1 + 1 ≠ w.heap.size + 1 by omega) (.int .i64 n0) (.int .i64 n1) (.int .i64 n2) (.int .i64 n3) (.string (M.bs H)) (.slice ax (cut (L.take k)).length cx)).six (.int .i64 n0) (.int .i64 n1) (.int .i64 n2) (.int .i64 n3) (.string (M.bs H)) (.slice ay (cut (L.take k)).length cy))
        have pb := ((HB.out.six (show w.heap.size ≤ w.heap.size + 1 by omega) (.int .i64 n0) (.int .i64 n1) (.int .i64 n2) (.int .i64 n3) (.string (M.bs H)) (.slice ax (cut (L.take k)).length cx)).six (show w.heap.size ≤ w.heap.size + 1 + 1 by omega) (.int .i64 n0) (.int .i64 n1) (.int .i64 n2) (.int .i64 n3) (.string (M.bs H)) (.slice ay (cut (L.take k)).length cy))
        rw [six, six] at x y p1 p2 pb
        generalize World.setCell _ ⟨w.heap.size + 1 + 1, 5, none⟩ (.slice ay (cut (L.take k)).length cy) = W9 at *
        obtain ⟨z0, z1, z2, z3, z4, z5⟩ := p1.cells
        obtain ⟨v0, v1, v2, v3, v4, v5⟩ := p2.cells
        rw [HE.out] at *
        refine bodyPost_ret (v := .tuple #[.agg #[.int .i64 n0, .int .i64 n1, .int .i64 n2, .int .i64 n3, .string (M.bs H), .slice ax (cut L).length cx], .agg #[.int .i64 n0, .int .i64 n1, .int .i64 n2, .int .i64 n3, .string (M.bs H), .slice ay (cut L).length cy]]) (by simp [results, Tryd.results12, go_sem, z0, z1, z2, z3, z4, z5, v0, v1, v2, v3, v4, v5]) rfl ⟨_, _, rfl, x, y, pb.dr⟩
end Go.Proofs.YtaepbmcmggnmpaaDoor
