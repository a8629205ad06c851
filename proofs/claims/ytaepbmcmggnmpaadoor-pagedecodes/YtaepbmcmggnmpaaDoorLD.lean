/-
  The law PageDecodes, walked.
-/
import Derived.Test.YtaepbmcmggnmpaaDoorDM
import Derived.Test.YtaepbmcmggnmpaaDoorSB
import Derived.Test.YtaepbmcmggnmpaaDoorI
import Derived.Test.YtaepbmcmggnmpaaDoorH
namespace Go.Proofs.YtaepbmcmggnmpaaDoor
open Go.RowKit
set_option maxRecDepth 100000

theorem M.es_small (l : List UInt8) : (M.decodeN l).1.es.length ≤ 5000 := by
  unfold M.decodeN
  split
  · simp [M.zeroP]
  · split
    · simp [M.zeroP]
    · split
      · simp [M.zeroP]
      · split
        · split
          · rename_i h1 h2 _ _ hp
            have hb : (M.bodyL l).length = 496 := by unfold M.bodyL; rw [if_pos (by omega), List.length_take, List.length_drop]; omega
            obtain ⟨_, hf, _⟩ := M.pageN_back _ hb hp
            have := M.szs_ge (M.pageN (M.bodyL l)).1.es
            unfold M.free at hf
            simp only
            omega
          · simp [M.zeroP]
        · simp [M.zeroP]
theorem rdecode_any (l : List UInt8) (w : World) (hl : l.length ≤ 100000) :
    Calls Tryd.prog 23 #[.string (M.bs l)] w fun e w' => ∃ v, e = .returned (.tuple #[pv (M.decodeN l).1 v, .int .i64 ((M.decodeN l).2 : Int)]) ∧ Vals w' v (M.decodeN l).1.es ∧ Bel w w' := by
  by_cases h1 : l.length < 512
  · have e : M.decodeN l = (M.zeroP, 3) := by unfold M.decodeN; rw [if_pos h1]
    rw [e]; exact rdecode_short l w h1
  · by_cases h2 : 512 < l.length
    · have e : M.decodeN l = (M.zeroP, 6) := by unfold M.decodeN; rw [if_neg h1, if_pos h2]
      rw [e]; exact rdecode_long l w h2 hl
    · have h3 : l.length = 512 := by omega
      by_cases hn : M.noughts l = true
      · have e : M.decodeN l = (M.zeroP, 0) := by unfold M.decodeN; rw [if_neg h1, if_neg h2, if_pos hn]
        rw [e]; exact rdecode_zero l w h3 hn
      · have hn' : M.noughts l = false := by simpa using hn
        have hwr := M.whole_R l h3
        rw [hn', Bool.false_or] at hwr
        by_cases hw : M.wholeR l = true
        · have := rdecode_main l w h3 hn' hw
          rw [M.rback_eq l h3 hn' (by rw [hwr, hw])] at this
          exact this
        · have hw' : M.wholeR l = false := by simpa using hw
          have e : M.decodeN l = (M.zeroP, 5) := by unfold M.decodeN; rw [if_neg h1, if_neg h2, if_neg hn, if_neg (by rw [hwr]; exact hw)]
          rw [e]; exact rdecode_sum l w h3 hn' hw'
theorem decodes_long (l : List UInt8) (w : World) (hT : Tab w) (hl : 1000 < l.length) :
    Calls Tryd.prog 4 #[.string (M.bs l)] w fun e w' => e = .returned (.bool true) ∧ Bel w w' := by
  have z : (M.bs l).size = l.length := M.bs_size l
  have q0 : ((1000 : Int) < (l.length : Int)) = True := by simp; omega
  go_enter Tryd.func4, Tryd.ntmps4
  go_wp2_with fail
  refine (speaks_any _ hT).mono ?_
  rintro e w1 ⟨rfl, b1⟩
  go_wp2_with fail
  go_ret
  exact ⟨rfl, b1⟩
set_option maxHeartbeats 4000000 in
theorem decodes_other (l : List UInt8) (w : World) (hT : Tab w) (hl : l.length ≤ 1000) (h5 : l.length ≠ 512) :
    Calls Tryd.prog 4 #[.string (M.bs l)] w fun e w' => e = .returned (.bool true) ∧ Bel w w' := by
  have z : (M.bs l).size = l.length := M.bs_size l
  have q0 : ((1000 : Int) < (l.length : Int)) = False := by simp; omega
  have q1 : ((l.length : Int) == 512) = false := by rw [beq_eq_false_iff_ne]; omega
  have hwh : M.whole l = false := by unfold M.whole; rw [decide_eq_false h5]; rfl
  have H17 := fun W t => decode_any l W t (by omega)
  have H23 := fun W => rdecode_any l W (by omega)
  have H19 := fun W t => whole_any l W t (by omega)
  have HES := M.es_small l
  have H18 := fun W x y hx hy => same_any (M.decodeN l).1 (M.decodeN l).1 x y W hx hy HES
  generalize (M.decodeN l).2 = cd at *
  generalize (M.decodeN l).1 = P at *
  obtain ⟨n0, n1, n2, n3, H, L⟩ := P
  simp only [pv] at H17 H23 H18
  go_enter Tryd.func4, Tryd.ntmps4
  go_wp2_with fail
  refine (speaks_any _ hT).mono ?_
  rintro e w1 ⟨rfl, b1⟩
  go_wp2_with fail
  refine (H17 _ (hT.bel b1)).mono ?_
  rintro e w2 ⟨v, rfl, vv, b2⟩
  obtain ⟨vx, cx, rfl, _⟩ := id vv
  have bA : Bel w2 (w2.alloc (.cells #[.int .i64 n0, .int .i64 n1, .int .i64 n2, .int .i64 n3, .string (M.bs H), .slice vx L.length cx] 29)) := Bel.al (Below.refl _ _) _
  have c3 := hid (show Bt 29 (w2.alloc (.cells #[.int .i64 n0, .int .i64 n1, .int .i64 n2, .int .i64 n3, .string (M.bs H), .slice vx L.length cx] 29)) (w2.heap.size) (.int .i64 n0) (.int .i64 n1) (.int .i64 n2) (.int .i64 n3) (.string (M.bs H)) (.slice vx L.length cx) from heap_alloc_new w2 _)
  have VX := hid (vv.bel bA)
  have bb3 := hid ((b1.tr b2).tr bA)
  clear vv bA b1 b2 H17
  go_wp2_with fail
  generalize w2.alloc (.cells #[.int .i64 n0, .int .i64 n1, .int .i64 n2, .int .i64 n3, .string (M.bs H), .slice vx L.length cx] 29) = W3 at *
  refine (H23 _).mono ?_
  rintro e w4 ⟨v, rfl, vv, b4⟩
  obtain ⟨wx, dx, rfl, _⟩ := id vv
  have bA : Bel w4 (w4.alloc (.cells #[.int .i64 n0, .int .i64 n1, .int .i64 n2, .int .i64 n3, .string (M.bs H), .slice wx L.length dx] 32)) := Bel.al (Below.refl _ _) _
  have d5 := hid (show Bt 32 (w4.alloc (.cells #[.int .i64 n0, .int .i64 n1, .int .i64 n2, .int .i64 n3, .string (M.bs H), .slice wx L.length dx] 32)) (w4.heap.size) (.int .i64 n0) (.int .i64 n1) (.int .i64 n2) (.int .i64 n3) (.string (M.bs H)) (.slice wx L.length dx) from heap_alloc_new w4 _)
  have c5 := hid (c3.out.bel (b4.tr bA))
  have VX5 := hid (VX.out.bel (b4.tr bA))
  have VY5 := hid (vv.bel bA)
  have bb5 := hid ((bb3.out.tr b4).tr bA)
  clear vv bA b4 H23 c3 VX bb3
  obtain ⟨s0, s1, s2, s3, s4, s5⟩ := c5.out.cells
  obtain ⟨t0, t1, t2, t3, t4, t5⟩ := d5.out.cells
  go_wp2_with fail
  generalize w4.alloc (.cells #[.int .i64 n0, .int .i64 n1, .int .i64 n2, .int .i64 n3, .string (M.bs H), .slice wx L.length dx] 32) = W5 at *

  refine (H18 _ _ _ VX5.out VY5.out).mono ?_
  rintro e w6 ⟨b, rfl, hb, b6⟩
  rw [hb.2 trivial]
  clear s0 s1 s2 s3 s4 s5 t0 t1 t2 t3 t4 t5 c5 d5
  go_wp2_with fail
  refine (H19 _ (hT.bel (bb5.out.tr b6))).mono ?_
  rintro e w7 ⟨rfl, b7⟩
  go_wp2_with fail
  go_ret
  exact ⟨rfl, (bb5.out.tr b6).tr b7⟩
set_option maxHeartbeats 4000000 in
theorem decodes_noughts (l : List UInt8) (w : World) (hT : Tab w) (h5 : l.length = 512) (hn : M.noughts l = true) :
    Calls Tryd.prog 4 #[.string (M.bs l)] w fun e w' => e = .returned (.bool true) ∧ Bel w w' := by
  have z : (M.bs l).size = l.length := M.bs_size l
  have q0 : ((1000 : Int) < (l.length : Int)) = False := by simp; omega
  have q1 : ((l.length : Int) == 512) = true := by rw [beq_iff_eq]; omega
  have hwh : M.whole l = true := by rw [M.whole_R l h5, hn]; rfl
  have QN := fun W => rnothing_any l W (by omega)
  rw [hn] at QN
  have H17 := fun W t => decode_any l W t (by omega)
  have H23 := fun W => rdecode_any l W (by omega)
  have H19 := fun W t => whole_any l W t (by omega)
  have HES := M.es_small l
  have H18 := fun W x y hx hy => same_any (M.decodeN l).1 (M.decodeN l).1 x y W hx hy HES
  generalize (M.decodeN l).2 = cd at *
  generalize (M.decodeN l).1 = P at *
  obtain ⟨n0, n1, n2, n3, H, L⟩ := P
  simp only [pv] at H17 H23 H18
  go_enter Tryd.func4, Tryd.ntmps4
  go_wp2_with fail
  refine (speaks_any _ hT).mono ?_
  rintro e w1 ⟨rfl, b1⟩
  go_wp2_with fail
  refine (H17 _ (hT.bel b1)).mono ?_
  rintro e w2 ⟨v, rfl, vv, b2⟩
  obtain ⟨vx, cx, rfl, _⟩ := id vv
  have bA : Bel w2 (w2.alloc (.cells #[.int .i64 n0, .int .i64 n1, .int .i64 n2, .int .i64 n3, .string (M.bs H), .slice vx L.length cx] 29)) := Bel.al (Below.refl _ _) _
  have c3 := hid (show Bt 29 (w2.alloc (.cells #[.int .i64 n0, .int .i64 n1, .int .i64 n2, .int .i64 n3, .string (M.bs H), .slice vx L.length cx] 29)) (w2.heap.size) (.int .i64 n0) (.int .i64 n1) (.int .i64 n2) (.int .i64 n3) (.string (M.bs H)) (.slice vx L.length cx) from heap_alloc_new w2 _)
  have VX := hid (vv.bel bA)
  have bb3 := hid ((b1.tr b2).tr bA)
  clear vv bA b1 b2 H17
  go_wp2_with fail
  generalize w2.alloc (.cells #[.int .i64 n0, .int .i64 n1, .int .i64 n2, .int .i64 n3, .string (M.bs H), .slice vx L.length cx] 29) = W3 at *
  refine (H23 _).mono ?_
  rintro e w4 ⟨v, rfl, vv, b4⟩
  obtain ⟨wx, dx, rfl, _⟩ := id vv
  have bA : Bel w4 (w4.alloc (.cells #[.int .i64 n0, .int .i64 n1, .int .i64 n2, .int .i64 n3, .string (M.bs H), .slice wx L.length dx] 32)) := Bel.al (Below.refl _ _) _
  have d5 := hid (show Bt 32 (w4.alloc (.cells #[.int .i64 n0, .int .i64 n1, .int .i64 n2, .int .i64 n3, .string (M.bs H), .slice wx L.length dx] 32)) (w4.heap.size) (.int .i64 n0) (.int .i64 n1) (.int .i64 n2) (.int .i64 n3) (.string (M.bs H)) (.slice wx L.length dx) from heap_alloc_new w4 _)
  have c5 := hid (c3.out.bel (b4.tr bA))
  have VX5 := hid (VX.out.bel (b4.tr bA))
  have VY5 := hid (vv.bel bA)
  have bb5 := hid ((bb3.out.tr b4).tr bA)
  clear vv bA b4 H23 c3 VX bb3
  obtain ⟨s0, s1, s2, s3, s4, s5⟩ := c5.out.cells
  obtain ⟨t0, t1, t2, t3, t4, t5⟩ := d5.out.cells
  go_wp2_with fail
  generalize w4.alloc (.cells #[.int .i64 n0, .int .i64 n1, .int .i64 n2, .int .i64 n3, .string (M.bs H), .slice wx L.length dx] 32) = W5 at *
  refine (QN _).mono ?_
  rintro e w6 ⟨rfl, rfl⟩
  go_wp2_with fail
  refine (H18 _ _ _ VX5.out VY5.out).mono ?_
  rintro e w6 ⟨b, rfl, hb, b6⟩
  rw [hb.2 trivial]
  clear s0 s1 s2 s3 s4 s5 t0 t1 t2 t3 t4 t5 c5 d5
  go_wp2_with fail
  refine (H19 _ (hT.bel (bb5.out.tr b6))).mono ?_
  rintro e w7 ⟨rfl, b7⟩
  go_wp2_with fail
  go_ret
  exact ⟨rfl, (bb5.out.tr b6).tr b7⟩
set_option maxHeartbeats 4000000 in
theorem decodes_whole (l : List UInt8) (w : World) (hT : Tab w) (h5 : l.length = 512) (hn : M.noughts l = false) :
    Calls Tryd.prog 4 #[.string (M.bs l)] w fun e w' => e = .returned (.bool true) ∧ Bel w w' := by
  have z : (M.bs l).size = l.length := M.bs_size l
  have q0 : ((1000 : Int) < (l.length : Int)) = False := by simp; omega
  have q1 : ((l.length : Int) == 512) = true := by rw [beq_iff_eq]; omega
  have hwh : M.whole l = M.wholeR l := by rw [M.whole_R l h5, hn, Bool.false_or]
  have QN := fun W => rnothing_any l W (by omega)
  rw [hn] at QN
  have QW := fun W => rwhole_any l W h5
  generalize M.wholeR l = wr at *
  have H17 := fun W t => decode_any l W t (by omega)
  have H23 := fun W => rdecode_any l W (by omega)
  have H19 := fun W t => whole_any l W t (by omega)
  have HES := M.es_small l
  have H18 := fun W x y hx hy => same_any (M.decodeN l).1 (M.decodeN l).1 x y W hx hy HES
  generalize (M.decodeN l).2 = cd at *
  generalize (M.decodeN l).1 = P at *
  obtain ⟨n0, n1, n2, n3, H, L⟩ := P
  simp only [pv] at H17 H23 H18
  go_enter Tryd.func4, Tryd.ntmps4
  go_wp2_with fail
  refine (speaks_any _ hT).mono ?_
  rintro e w1 ⟨rfl, b1⟩
  go_wp2_with fail
  refine (H17 _ (hT.bel b1)).mono ?_
  rintro e w2 ⟨v, rfl, vv, b2⟩
  obtain ⟨vx, cx, rfl, _⟩ := id vv
  have bA : Bel w2 (w2.alloc (.cells #[.int .i64 n0, .int .i64 n1, .int .i64 n2, .int .i64 n3, .string (M.bs H), .slice vx L.length cx] 29)) := Bel.al (Below.refl _ _) _
  have c3 := hid (show Bt 29 (w2.alloc (.cells #[.int .i64 n0, .int .i64 n1, .int .i64 n2, .int .i64 n3, .string (M.bs H), .slice vx L.length cx] 29)) (w2.heap.size) (.int .i64 n0) (.int .i64 n1) (.int .i64 n2) (.int .i64 n3) (.string (M.bs H)) (.slice vx L.length cx) from heap_alloc_new w2 _)
  have VX := hid (vv.bel bA)
  have bb3 := hid ((b1.tr b2).tr bA)
  clear vv bA b1 b2 H17
  go_wp2_with fail
  generalize w2.alloc (.cells #[.int .i64 n0, .int .i64 n1, .int .i64 n2, .int .i64 n3, .string (M.bs H), .slice vx L.length cx] 29) = W3 at *
  refine (H23 _).mono ?_
  rintro e w4 ⟨v, rfl, vv, b4⟩
  obtain ⟨wx, dx, rfl, _⟩ := id vv
  have bA : Bel w4 (w4.alloc (.cells #[.int .i64 n0, .int .i64 n1, .int .i64 n2, .int .i64 n3, .string (M.bs H), .slice wx L.length dx] 32)) := Bel.al (Below.refl _ _) _
  have d5 := hid (show Bt 32 (w4.alloc (.cells #[.int .i64 n0, .int .i64 n1, .int .i64 n2, .int .i64 n3, .string (M.bs H), .slice wx L.length dx] 32)) (w4.heap.size) (.int .i64 n0) (.int .i64 n1) (.int .i64 n2) (.int .i64 n3) (.string (M.bs H)) (.slice wx L.length dx) from heap_alloc_new w4 _)
  have c5 := hid (c3.out.bel (b4.tr bA))
  have VX5 := hid (VX.out.bel (b4.tr bA))
  have VY5 := hid (vv.bel bA)
  have bb5 := hid ((bb3.out.tr b4).tr bA)
  clear vv bA b4 H23 c3 VX bb3
  obtain ⟨s0, s1, s2, s3, s4, s5⟩ := c5.out.cells
  obtain ⟨t0, t1, t2, t3, t4, t5⟩ := d5.out.cells
  go_wp2_with fail
  generalize w4.alloc (.cells #[.int .i64 n0, .int .i64 n1, .int .i64 n2, .int .i64 n3, .string (M.bs H), .slice wx L.length dx] 32) = W5 at *
  refine (QN _).mono ?_
  rintro e w6 ⟨rfl, rfl⟩
  go_wp2_with fail
  refine (QW _).mono ?_
  rintro e w6 ⟨rfl, b6⟩
  have VX6 := hid (VX5.out.bel b6)
  have VY6 := hid (VY5.out.bel b6)
  have bb6 := hid (bb5.out.tr b6)
  have c6 := hid (c5.out.bel b6)
  have d6 := hid (d5.out.bel b6)
  clear VX5 VY5 bb5 c5 d5 s0 s1 s2 s3 s4 s5 t0 t1 t2 t3 t4 t5 b6
  obtain ⟨s0, s1, s2, s3, s4, s5⟩ := c6.out.cells
  obtain ⟨t0, t1, t2, t3, t4, t5⟩ := d6.out.cells
  go_wp2_with fail
  refine (H18 _ _ _ VX6.out VY6.out).mono ?_
  rintro e w7 ⟨b, rfl, hb, b6⟩
  rw [hb.2 trivial]
  clear s0 s1 s2 s3 s4 s5 t0 t1 t2 t3 t4 t5 c6 d6
  go_wp2_with fail
  refine (H19 _ (hT.bel (bb6.out.tr b6))).mono ?_
  rintro e w8 ⟨rfl, b7⟩
  go_wp2_with fail
  go_ret
  exact ⟨rfl, (bb6.out.tr b6).tr b7⟩
theorem decodes_all (s : ByteArray) (w : World) (hT : Tab w) : Calls Tryd.prog 4 #[.string s] w fun e w' => e = .returned (.bool true) ∧ Bel w w' := by
  obtain ⟨l, rfl⟩ : ∃ l, s = M.bs l := ⟨s.data.toList, (M.bs_of s).symm⟩
  by_cases h1 : 1000 < l.length
  · exact decodes_long l w hT h1
  · by_cases h5 : l.length = 512
    · by_cases hn : M.noughts l = true
      · exact decodes_noughts l w hT h5 hn
      · exact decodes_whole l w hT h5 (by simpa using hn)
    · exact decodes_other l w hT (by omega) h5
end Go.Proofs.YtaepbmcmggnmpaaDoor
