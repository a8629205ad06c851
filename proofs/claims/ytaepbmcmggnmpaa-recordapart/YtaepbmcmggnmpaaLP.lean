/-
  The law RecordPuts, walked, from the contract of the law's 'made'.
-/
import Derived.Test.YtaepbmcmggnmpaaRP
import Derived.Test.YtaepbmcmggnmpaaSP
import Derived.Test.YtaepbmcmggnmpaaGN
namespace Go.Proofs.Ytaepbmcmggnmpaa
open Go.RowKit
set_option maxRecDepth 100000

/-- What the law makes of what comes in. -/
def cutP (p : M.Pc) : M.Pc := (p.1, p.2.take 600)
def cutL (L : List M.Pc) : List M.Pc := (L.take 10).map cutP
def cutC (c : M.Ch) : M.Ch := (c.1, cutL c.2)
def cutG (L : List M.Ch) : List M.Ch := (L.take 300).map cutC
def madeR (n0 n1 n2 n3 : Int) (undo : List UInt8) (L : List M.Ch) : M.Rec := ⟨n0, n1, n2, undo.take 20000, n3, cutG L⟩
theorem cutL_length (L : List M.Pc) : (cutL L).length ≤ 10 := by unfold cutL; rw [List.length_map, List.length_take]; omega
theorem cutL_small (L : List M.Pc) : ∀ p ∈ cutL L, p.2.length ≤ 600 := by
  intro p hp
  obtain ⟨q, _, rfl⟩ := List.mem_map.1 hp
  simp only [cutP, List.length_take]; omega
theorem cutG_length (L : List M.Ch) : (cutG L).length ≤ 300 := by unfold cutG; rw [List.length_map, List.length_take]; omega
theorem cutG_small (L : List M.Ch) : ∀ c ∈ cutG L, c.2.length ≤ 10 ∧ ∀ p ∈ c.2, p.2.length ≤ 600 := by
  intro c hc
  obtain ⟨q, _, rfl⟩ := List.mem_map.1 hc
  exact ⟨cutL_length _, cutL_small _⟩
theorem madeR_small (n0 n1 n2 n3 : Int) (undo : List UInt8) (L : List M.Ch) : SmR (madeR n0 n1 n2 n3 undo L) :=
  ⟨by simp only [madeR, List.length_take]; omega, by have := cutG_length L; simp only [madeR]; omega, fun c hc => by
    obtain ⟨h1, h2⟩ := cutG_small L c hc
    exact ⟨by omega, fun p hp => by have := h2 p hp; omega⟩⟩
/-- The contract of 'made'. -/
def MadeC : Prop := ∀ (n0 n1 n2 n3 : Int) (undo : List UInt8) (L : List M.Ch) (a0 : Option Addr) (cap : Nat) (w : World), ValC w (.slice a0 L.length cap) L → L.length ≤ maxLen → undo.length ≤ maxLen → (∀ c ∈ L, c.2.length ≤ maxLen ∧ ∀ p ∈ c.2, p.2.length ≤ maxLen) →
    Calls Try.prog 8 #[.agg #[.int .i64 n0, .int .i64 n1, .int .i64 n2, .int .i64 n3, .string (M.bs undo), .slice a0 L.length cap]] w fun e w' => ∃ x y Qx Qy,
      e = .returned (.tuple #[.agg #[.int .i64 n0, .int .i64 n1, .int .i64 n2, .string (M.bs (undo.take 20000)), .int .i64 n3, x], .agg #[.int .i64 n0, .int .i64 n1, .int .i64 n2, .string (M.bs (undo.take 20000)), .int .i64 n3, y]]) ∧
        (Qx.map (·.1) = cutG L ∧ OwnC 60 w' w.heap.size x Qx ∧ AllP 66 w' w.heap.size Qx) ∧ (Qy.map (·.1) = cutG L ∧ OwnC 63 w' w.heap.size y Qy ∧ AllP 67 w' w.heap.size Qy) ∧ Bel w w'
set_option maxHeartbeats 4000000 in
theorem puts_of (hm : MadeC) (n0 n1 n2 n3 : Int) (undo : List UInt8) (L : List M.Ch) (a0 : Option Addr) (cap : Nat) (w : World) (hv : ValC w (.slice a0 L.length cap) L) (hL : L.length ≤ maxLen) (hu : undo.length ≤ maxLen) (hs : ∀ c ∈ L, c.2.length ≤ maxLen ∧ ∀ p ∈ c.2, p.2.length ≤ maxLen) :
    Calls Try.prog 3 #[.agg #[.int .i64 n0, .int .i64 n1, .int .i64 n2, .int .i64 n3, .string (M.bs undo), .slice a0 L.length cap]] w fun e w' => e = .returned (.bool true) ∧ Bel w w' := by
  have H1 := fun W h => hm n0 n1 n2 n3 undo L a0 cap W h hL hu hs
  have hsm := madeR_small n0 n1 n2 n3 undo L
  have hsm2 := cutG_small L
  have H2 := fun W x h => putR_any (madeR n0 n1 n2 n3 undo L) x W hsm h
  have H3 := fun W x h => rputR_any (madeR n0 n1 n2 n3 undo L) x W hsm h
  have H4 := fun W x y hx hy => same_yes (madeR n0 n1 n2 n3 undo L) x y W hx hy hsm.pages (fun c hc => (hsm.each c hc).1)
  have HG : Hid ((M.putR (madeR n0 n1 n2 n3 undo L)).2 = 0 → M.getR (M.putR (madeR n0 n1 n2 n3 undo L)).1 = (madeR n0 n1 n2 n3 undo L, 0) ∧ (M.putR (madeR n0 n1 n2 n3 undo L)).1.length ≤ 60000) := fun h => by
    by_cases hi : M.inB (madeR n0 n1 n2 n3 undo L) = true
    · by_cases hl : 16384 < (M.recB (madeR n0 n1 n2 n3 undo L)).length
      · unfold M.putR at h; rw [if_pos hi, if_pos hl] at h; cases h
      · have e : M.putR (madeR n0 n1 n2 n3 undo L) = (M.recB (madeR n0 n1 n2 n3 undo L), 0) := by unfold M.putR; rw [if_pos hi, if_neg hl]
        rw [e]
        exact ⟨M.getR_putR _ hi (fun c hc => by have := (hsm2 c hc).1; omega) (by omega), by simp only; omega⟩
    · unfold M.putR at h; rw [if_neg hi] at h; cases h
  have H5 := fun W (h : (M.putR (madeR n0 n1 n2 n3 undo L)).1.length ≤ 60000) => getR_any (M.putR (madeR n0 n1 n2 n3 undo L)).1 W h
  simp only [madeR] at H2 H3 H4 H5 HG
  generalize undo.take 20000 = H at *
  generalize (M.putR ⟨n0, n1, n2, H, n3, cutG L⟩).2 = cd at *
  generalize (M.putR ⟨n0, n1, n2, H, n3, cutG L⟩).1 = S at *
  have bW : Bel w (w.alloc (.cells #[.int .i64 n0, .int .i64 n1, .int .i64 n2, .int .i64 n3, .string (M.bs undo), .slice a0 L.length cap] 25)) := Bel.al (Below.refl _ _) _
  have g0 : Bt 25 (w.alloc (.cells #[.int .i64 n0, .int .i64 n1, .int .i64 n2, .int .i64 n3, .string (M.bs undo), .slice a0 L.length cap] 25)) w.heap.size (.int .i64 n0) (.int .i64 n1) (.int .i64 n2) (.int .i64 n3) (.string (M.bs undo)) (.slice a0 L.length cap) := heap_alloc_new w _
  have HV := hid (hv.bel bW)
  clear hv hs hL hu hsm hsm2
  go_enter Try.func3, Try.ntmps3
  go_wp2_with fail
  refine (speaks_any _).mono ?_
  rintro e w1 ⟨rfl, b1⟩
  obtain ⟨s0, s1, s2, s3, s4, s5⟩ := (g0.bel b1).cells
  have bb1 := bW.tr b1
  have hv1 := HV.out.bel b1
  clear g0 HV bW
  go_wp2_with fail
  refine (H1 _ hv1).mono ?_
  rintro e w2 ⟨x, y, Qx, Qy, rfl, ⟨qx, ox, px⟩, ⟨qy, oy, py⟩, b2⟩
  have vx := ox.vals px
  have vy := oy.vals py
  rw [qx] at vx
  rw [qy] at vy
  obtain ⟨ax, cx, rfl, _⟩ := id vx
  obtain ⟨ay, cy, rfl, _⟩ := id vy
  have bb2 := bb1.tr b2
  clear s0 s1 s2 s3 s4 s5 qx qy ox oy px py H1 hv1
  have hb3 : Bel w2 ((w2.alloc (.cells #[.int .i64 n0, .int .i64 n1, .int .i64 n2, .string (M.bs H), .int .i64 n3, .slice ax (cutG L).length cx] 29)).alloc (.cells #[.int .i64 n0, .int .i64 n1, .int .i64 n2, .string (M.bs H), .int .i64 n3, .slice ay (cutG L).length cy] 32)) := Bel.al (Bel.al (Below.refl _ _) _) _
  have c3 : Bt 29 ((w2.alloc (.cells #[.int .i64 n0, .int .i64 n1, .int .i64 n2, .string (M.bs H), .int .i64 n3, .slice ax (cutG L).length cx] 29)).alloc (.cells #[.int .i64 n0, .int .i64 n1, .int .i64 n2, .string (M.bs H), .int .i64 n3, .slice ay (cutG L).length cy] 32)) w2.heap.size (.int .i64 n0) (.int .i64 n1) (.int .i64 n2) (.string (M.bs H)) (.int .i64 n3) (.slice ax (cutG L).length cx) := Bt.bel (heap_alloc_new w2 _) (Bel.al (Below.refl _ _) _)
  have d3 : Bt 32 ((w2.alloc (.cells #[.int .i64 n0, .int .i64 n1, .int .i64 n2, .string (M.bs H), .int .i64 n3, .slice ax (cutG L).length cx] 29)).alloc (.cells #[.int .i64 n0, .int .i64 n1, .int .i64 n2, .string (M.bs H), .int .i64 n3, .slice ay (cutG L).length cy] 32)) (w2.heap.size + 1) (.int .i64 n0) (.int .i64 n1) (.int .i64 n2) (.string (M.bs H)) (.int .i64 n3) (.slice ay (cutG L).length cy) := by
    have := heap_alloc_new (w2.alloc (.cells #[.int .i64 n0, .int .i64 n1, .int .i64 n2, .string (M.bs H), .int .i64 n3, .slice ax (cutG L).length cx] 29)) (.cells #[.int .i64 n0, .int .i64 n1, .int .i64 n2, .string (M.bs H), .int .i64 n3, .slice ay (cutG L).length cy] 32)
    rw [World.size_alloc] at this
    exact this
  go_wp2_with fail
  refine (H2 _ _ (vx.bel hb3)).mono ?_
  rintro e w4 ⟨rfl, b4⟩
  have d4 := d3.bel b4
  obtain ⟨t0, t1, t2, t3, t4, t5⟩ := d4.cells
  have vy4 := (vy.bel hb3).bel b4
  have bb4 := (bb2.tr hb3).tr b4
  clear c3 d3 vx vy hb3
  go_wp2_with fail
  refine (H3 _ _ vy4).mono ?_
  rintro e w5 ⟨rfl, b5⟩
  have d5 := d4.bel b5
  have vy5 := vy4.bel b5
  have bb5 := bb4.tr b5
  clear t0 t1 t2 t3 t4 t5 d4 vy4
  by_cases hcd : cd = 0
  · subst hcd
    obtain ⟨hg1, hg2⟩ := HG.out rfl
    have H6 := fun W => H5 W hg2
    rw [hg1] at H6
    clear H5 hg1 hg2
    go_wp2_with fail
    refine (H6 _).mono ?_
    rintro e w6 ⟨xg, Q, rfl, hq, o6, p6, b6⟩
    have v6 := o6.vals p6
    rw [hq] at v6
    obtain ⟨ag, cg, rfl, _⟩ := id v6
    clear o6 p6 hq
    have hb7 : Bel w6 (w6.alloc (.cells #[.int .i64 n0, .int .i64 n1, .int .i64 n2, .string (M.bs H), .int .i64 n3, .slice ag (cutG L).length cg] 29)) := Bel.al (Below.refl _ _) _
    have c7 : Bt 29 (w6.alloc (.cells #[.int .i64 n0, .int .i64 n1, .int .i64 n2, .string (M.bs H), .int .i64 n3, .slice ag (cutG L).length cg] 29)) w6.heap.size (.int .i64 n0) (.int .i64 n1) (.int .i64 n2) (.string (M.bs H)) (.int .i64 n3) (.slice ag (cutG L).length cg) := heap_alloc_new w6 _
    obtain ⟨t0, t1, t2, t3, t4, t5⟩ := ((d5.bel b6).bel hb7).cells
    obtain ⟨s0, s1, s2, s3, s4, s5⟩ := c7.cells
    have vy7 := (vy5.bel b6).bel hb7
    have v7 := v6.bel hb7
    have bb7 := (bb5.tr b6).tr hb7
    clear d5 c7 vy5 v6
    go_wp2_with fail
    refine (H4 _ _ _ v7 vy7).mono ?_
    rintro e w8 ⟨rfl, b8⟩
    go_wp2_with fail
    go_ret
    exact ⟨rfl, bb7.tr b8⟩
  · have qc : ((cd : Int) != 0) = true := by first | (simp; done) | (simp; omega)
    have qc2 : ¬ ((cd : Int) = 0) := by omega
    go_wp2_with fail
    go_ret
    exact ⟨rfl, bb5⟩
end Go.Proofs.Ytaepbmcmggnmpaa
