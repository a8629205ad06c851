/-
  The law PageHalves, walked.
-/
import Derived.Test.YtaepbmcmggnmpaaDoorOR
import Derived.Deep.RegionHeld3
import Derived.Test.YtaepbmcmggnmpaaDoorRT
import Derived.Test.YtaepbmcmggnmpaaDoorI
namespace Go.Proofs.YtaepbmcmggnmpaaDoor
open Go.RowKit
set_option maxRecDepth 100000

namespace M
theorem enc_facts {p : Pg} (h : (encode p).2 = 0) : (encode p).1.length = 512 ∧ (encode p).1.take 6 = put p.lsn 6 ∧ ((encode p).1.drop 502).take 6 = put p.lsn 6 ∧ btw 0 p.lsn 281474976710655 = true := by
  obtain ⟨hi, hf, he, hb', hl⟩ := encode_ok h
  have b := build_parts p.lsn (body p) hb' hl
  rw [he]
  exact ⟨b.1, b.2.1, b.2.2.1, hb'⟩
theorem half_torn (s t : List UInt8) (a b : Int) (ha : btw 0 a 281474976710655 = true) (hb : btw 0 b 281474976710655 = true) (hs : s.length = 512) (h1 : s.take 6 = put a 6) (h2 : (t.drop 502).take 6 = put b 6) (hne : a ≠ b) :
    whole (s.take 256 ++ t.drop 256) = false := by
  have h := half_parts s t hs
  exact torn _ a b ha hb (h.1.trans h1) (h.2.trans h2) hne
theorem zero_facts : (List.replicate 512 (0 : UInt8)).length = 512 ∧ (List.replicate 512 (0 : UInt8)).take 6 = put 0 6 ∧ ((List.replicate 512 (0 : UInt8)).drop 502).take 6 = put 0 6 ∧ btw 0 0 281474976710655 = true := by
  refine ⟨by simp, by decide, by decide, by decide⟩
theorem halves (p q : Pg) (hp : (encode p).2 = 0) (hq : (encode q).2 = 0) : (encode p).1.length = 512 ∧ (encode q).1.length = 512 ∧
    (p.lsn ≠ q.lsn → whole ((encode p).1.take 256 ++ (encode q).1.drop 256) = false ∧ whole ((encode q).1.take 256 ++ (encode p).1.drop 256) = false) ∧
    (p.lsn ≠ 0 → whole ((encode p).1.take 256 ++ (List.replicate 512 0).drop 256) = false ∧ whole ((List.replicate 512 0).take 256 ++ (encode p).1.drop 256) = false) := by
  obtain ⟨a1, a2, a3, a4⟩ := enc_facts hp
  obtain ⟨b1, b2, b3, b4⟩ := enc_facts hq
  obtain ⟨c1, c2, c3, c4⟩ := zero_facts
  exact ⟨a1, b1, fun h => ⟨half_torn _ _ _ _ a4 b4 a1 a2 b3 h, half_torn _ _ _ _ b4 a4 b1 b2 a3 (Ne.symm h)⟩, fun h => ⟨half_torn _ _ _ _ a4 c4 a1 a2 c3 h, half_torn _ _ _ _ c4 a4 c1 c2 a3 (Ne.symm h)⟩⟩
end M
theorem stepW {ops : Array Oper} {o : Oper} {a : Act} {K : Act → World → Prop} {Q : Exit → Act → World → Prop} {E : Prop} {W : World} (hw : Region.wanted o (yielded ops a.tmps) = true) (t : Tmp)
    (ho : o.op = .call { callee := .value (.func 19), args := #[.tmp t], argTypes := #[9] }) (x : Value) (hx : a.eval (.tmp t) = x) {R : Ending → World → Prop}
    (H : Calls Tryd.prog 19 #[x] W R) (h : ∀ e w', R e w' → ∃ v, e = .returned v ∧ K (a.put o.dst v) w') :
    if Region.wanted o (yielded ops a.tmps) = true then Oper.wp Tryd.prog o a W K Q else E := by
  rw [if_pos hw]
  have hx' : a.tmps[t]?.getD undef = x := by rw [← hx]; simp [Act.eval]
  clear hx hw
  obtain ⟨dst, op, type, pos, after, guard⟩ := o
  simp only at ho h ⊢
  subst ho
  go_simp
  refine H.mono ?_
  intro e w' hR
  obtain ⟨v, rfl, hv⟩ := h e w' hR
  exact hv

theorem half_str (s t : List UInt8) (_hs : s.length = 512) (ht : t.length = 512) : (M.bs s).extract 0 256 ++ (M.bs t).extract 256 512 = M.bs (s.take 256 ++ t.drop 256) := by
  rw [sub_bs, sub_bs, M.bs_append, List.drop_zero, List.take_of_length_le (l := t.drop 256) (by rw [List.length_drop]; omega)]
theorem half_call (s t : List UInt8) (hs : s.length = 512) (ht : t.length = 512) (h : M.whole (s.take 256 ++ t.drop 256) = false) (W : World) (hT : Tab W) :
    Calls Tryd.prog 19 #[.string ((M.bs s).extract 0 256 ++ (M.bs t).extract 256 512)] W fun e w' => e = .returned (.bool false) ∧ Bel W w' := by
  rw [half_str s t hs ht, ← h]
  exact whole_any _ W hT (by rw [List.length_append, List.length_take, List.length_drop]; omega)

set_option maxHeartbeats 4000000 in
theorem halves_any (n0 n1 n2 n3 : Int) (hi : List UInt8) (L : List M.En) (a0 : Option Addr) (cap : Nat) (m0 m1 m2 m3 : Int) (hj : List UInt8) (K : List M.En) (b0 : Option Addr) (dap : Nat) (w : World) (hT : Tab w)
    (hv : Vals w (.slice a0 L.length cap) L) (hL : L.length ≤ maxLen) (hu : hi.length ≤ maxLen) (hs : ∀ e ∈ L, e.1.length ≤ maxLen ∧ e.2.1.length ≤ maxLen) (hn : -9223372036854775808 ≤ n0 ∧ n0 ≤ 9223372036854775807)
    (hv' : Vals w (.slice b0 K.length dap) K) (hL' : K.length ≤ maxLen) (hu' : hj.length ≤ maxLen) (hs' : ∀ e ∈ K, e.1.length ≤ maxLen ∧ e.2.1.length ≤ maxLen) (hm : -9223372036854775808 ≤ m0 ∧ m0 ≤ 9223372036854775807) :
    Calls Tryd.prog 7 #[.agg #[.int .i64 n0, .int .i64 n1, .int .i64 n2, .int .i64 n3, .string (M.bs hi), .slice a0 L.length cap], .agg #[.int .i64 m0, .int .i64 m1, .int .i64 m2, .int .i64 m3, .string (M.bs hj), .slice b0 K.length dap]] w fun e w' => e = .returned (.bool true) ∧ Bel w w' := by
  have H1 := fun W h => made_any n0 n1 n2 n3 hi L a0 cap W h hL hu hs
  have H1' := fun W h => made_any m0 m1 m2 m3 hj K b0 dap W h hL' hu' hs'
  have hsm := madeP_small n0 n1 n2 n3 hi L
  have hsm' := madeP_small m0 m1 m2 m3 hj K
  have H2 := fun W x h t => encode_any (madeP n0 n1 n2 n3 hi L) x W hsm h t hn
  have H2' := fun W x h t => encode_any (madeP m0 m1 m2 m3 hj K) x W hsm' h t hm
  have HI := hid (M.halves (madeP n0 n1 n2 n3 hi L) (madeP m0 m1 m2 m3 hj K))
  simp only [madeP] at H2 H2' HI
  generalize hi.take 80 = H at *
  generalize hj.take 80 = H' at *
  generalize (M.encode { lsn := n0, kind := n1, level := n2, right := n3, high := H, es := cut L }).2 = cd at *
  generalize (M.encode { lsn := n0, kind := n1, level := n2, right := n3, high := H, es := cut L }).1 = S at *
  generalize (M.encode { lsn := m0, kind := m1, level := m2, right := m3, high := H', es := cut K }).2 = cd' at *
  generalize (M.encode { lsn := m0, kind := m1, level := m2, right := m3, high := H', es := cut K }).1 = S' at *
  have bW : Bel w ((w.alloc (.cells #[.int .i64 n0, .int .i64 n1, .int .i64 n2, .int .i64 n3, .string (M.bs hi), .slice a0 L.length cap] 25)).alloc (.cells #[.int .i64 m0, .int .i64 m1, .int .i64 m2, .int .i64 m3, .string (M.bs hj), .slice b0 K.length dap] 25)) := Bel.al (Bel.al (Below.refl _ _) _) _
  have g0 : Bt 25 ((w.alloc (.cells #[.int .i64 n0, .int .i64 n1, .int .i64 n2, .int .i64 n3, .string (M.bs hi), .slice a0 L.length cap] 25)).alloc (.cells #[.int .i64 m0, .int .i64 m1, .int .i64 m2, .int .i64 m3, .string (M.bs hj), .slice b0 K.length dap] 25)) w.heap.size (.int .i64 n0) (.int .i64 n1) (.int .i64 n2) (.int .i64 n3) (.string (M.bs hi)) (.slice a0 L.length cap) := (heap_two w _ _).1
  have g1 : Bt 25 ((w.alloc (.cells #[.int .i64 n0, .int .i64 n1, .int .i64 n2, .int .i64 n3, .string (M.bs hi), .slice a0 L.length cap] 25)).alloc (.cells #[.int .i64 m0, .int .i64 m1, .int .i64 m2, .int .i64 m3, .string (M.bs hj), .slice b0 K.length dap] 25)) (w.heap.size + 1) (.int .i64 m0) (.int .i64 m1) (.int .i64 m2) (.int .i64 m3) (.string (M.bs hj)) (.slice b0 K.length dap) := (heap_two w _ _).2
  have HV := hid (hv.bel bW)
  have HV' := hid (hv'.bel bW)
  clear hv hs hL hu hsm hv' hs' hL' hu' hsm'
  go_enter Tryd.func7, Tryd.ntmps7
  go_wp2_with fail
  refine (speaks_any _ (hT.bel bW)).mono ?_
  rintro e w1 ⟨rfl, b1⟩
  obtain ⟨s0, s1, s2, s3, s4, s5⟩ := (g0.bel b1).cells
  have g1 := hid (g1.bel b1)
  have bb1 := bW.tr b1
  have hv1 := HV.out.bel b1
  have HV' := hid (HV'.out.bel b1)
  clear g0 HV bW
  go_wp2_with fail
  refine (H1 _ hv1).mono ?_
  rintro e w2 ⟨x, y, rfl, ox, oy, b2⟩
  have vx := ox.vals
  obtain ⟨ax, cx, rfl, _⟩ := id vx
  obtain ⟨ay, cy, rfl, _⟩ := id oy.vals
  have bb2 := bb1.tr b2
  clear s0 s1 s2 s3 s4 s5 ox oy H1 hv1
  have hb3 : Bel w2 ((w2.alloc (.cells #[.int .i64 n0, .int .i64 n1, .int .i64 n2, .int .i64 n3, .string (M.bs H), .slice ax (cut L).length cx] 29)).alloc (.cells #[.int .i64 n0, .int .i64 n1, .int .i64 n2, .int .i64 n3, .string (M.bs H), .slice ay (cut L).length cy] 32)) := Bel.al (Bel.al (Below.refl _ _) _) _
  have c3 := hid (show Bt 29 ((w2.alloc (.cells #[.int .i64 n0, .int .i64 n1, .int .i64 n2, .int .i64 n3, .string (M.bs H), .slice ax (cut L).length cx] 29)).alloc (.cells #[.int .i64 n0, .int .i64 n1, .int .i64 n2, .int .i64 n3, .string (M.bs H), .slice ay (cut L).length cy] 32)) w2.heap.size (.int .i64 n0) (.int .i64 n1) (.int .i64 n2) (.int .i64 n3) (.string (M.bs H)) (.slice ax (cut L).length cx) from (heap_two w2 _ _).1)
  obtain ⟨s0, s1, s2, s3, s4, s5⟩ := (g1.out.bel (b2.tr hb3)).cells
  have VX := hid (vx.bel hb3)
  have hv3 := HV'.out.bel (b2.tr hb3)
  have bb3 := bb2.tr hb3
  clear vx hb3 HV' b2 bb2
  go_wp2_with fail
  refine (H1' _ hv3).mono ?_
  rintro e w4 ⟨x, y, rfl, ox, oy, b4⟩
  have vx := ox.vals
  have vy := oy.vals
  obtain ⟨bx, ex, rfl, _⟩ := id vx
  obtain ⟨by', ey, rfl, _⟩ := id vy
  have bb4 := bb3.tr b4
  clear s0 s1 s2 s3 s4 s5 ox oy H1' hv3
  have hb5 : Bel w4 ((w4.alloc (.cells #[.int .i64 m0, .int .i64 m1, .int .i64 m2, .int .i64 m3, .string (M.bs H'), .slice bx (cut K).length ex] 29)).alloc (.cells #[.int .i64 m0, .int .i64 m1, .int .i64 m2, .int .i64 m3, .string (M.bs H'), .slice by' (cut K).length ey] 32)) := Bel.al (Bel.al (Below.refl _ _) _) _
  have d3 := hid (show Bt 29 ((w4.alloc (.cells #[.int .i64 m0, .int .i64 m1, .int .i64 m2, .int .i64 m3, .string (M.bs H'), .slice bx (cut K).length ex] 29)).alloc (.cells #[.int .i64 m0, .int .i64 m1, .int .i64 m2, .int .i64 m3, .string (M.bs H'), .slice by' (cut K).length ey] 32)) w4.heap.size (.int .i64 m0) (.int .i64 m1) (.int .i64 m2) (.int .i64 m3) (.string (M.bs H')) (.slice bx (cut K).length ex) from (heap_two w4 _ _).1)
  have d4 := hid (show Bt 32 ((w4.alloc (.cells #[.int .i64 m0, .int .i64 m1, .int .i64 m2, .int .i64 m3, .string (M.bs H'), .slice bx (cut K).length ex] 29)).alloc (.cells #[.int .i64 m0, .int .i64 m1, .int .i64 m2, .int .i64 m3, .string (M.bs H'), .slice by' (cut K).length ey] 32)) (w4.heap.size + 1) (.int .i64 m0) (.int .i64 m1) (.int .i64 m2) (.int .i64 m3) (.string (M.bs H')) (.slice by' (cut K).length ey) from (heap_two w4 _ _).2)
  have c5 := hid ((c3.out.bel b4).bel hb5)
  obtain ⟨t0, t1, t2, t3, t4, t5⟩ := c5.out.cells
  have VX := hid ((VX.out.bel b4).bel hb5)
  have VB := hid (vx.bel hb5)
  have VW := hid (vy.bel hb5)
  have bb5 := bb4.tr hb5
  clear vx vy hb5 c3 b4
  go_wp2_with fail
  refine (H2 _ _ VX.out (hT.bel bb5)).mono ?_
  rintro e w6 ⟨rfl, b6⟩
  have bb6 := bb5.tr b6
  clear t0 t1 t2 t3 t4 t5
  obtain ⟨t0, t1, t2, t3, t4, t5⟩ := (d3.out.bel b6).cells
  go_wp2_with fail
  refine (H2' _ _ (VB.out.bel b6) (hT.bel bb6)).mono ?_
  rintro e w7 ⟨rfl, b7⟩
  have bb7 := bb6.tr b7
  clear t0 t1 t2 t3 t4 t5
  obtain ⟨t0, t1, t2, t3, t4, t5⟩ := ((c5.out.bel b6).bel b7).cells
  obtain ⟨s0, s1, s2, s3, s4, s5⟩ := ((d3.out.bel b6).bel b7).cells
  by_cases hcd : cd = 0
  case neg =>
    have qc : ((cd : Int) != 0) = true := by first | (simp; done) | (simp; omega)
    have qc2 : ¬ ((cd : Int) = 0) := by omega
    go_wp2_with fail
    go_ret
    exact ⟨rfl, bb7⟩
  subst hcd
  by_cases hcd : cd' = 0
  case neg =>
    have qc : ((cd' : Int) != 0) = true := by first | (simp; done) | (simp; omega)
    have qc2 : ¬ ((cd' : Int) = 0) := by omega
    go_wp2_with fail
    go_ret
    exact ⟨rfl, bb7⟩
  subst hcd
  have HI := HI.out (by trivial) (by trivial)
  by_cases hnm : n0 = m0
  · subst hnm
    clear HI
    go_wp2_with fail
    go_ret
    exact ⟨rfl, bb7⟩
  obtain ⟨hS1, hS2, hST, hSZ⟩ := HI
  obtain ⟨x1, x2⟩ := hST hnm
  clear hST
  have z1 : (M.bs S).size = 512 := by rw [M.bs_size]; exact hS1
  have z2 : (M.bs S').size = 512 := by rw [M.bs_size]; exact hS2
  have z3 : (M.bs (List.replicate 512 0)).size = 512 := by rw [M.bs_size, List.length_replicate]
  have C1 := half_call S S' hS1 hS2 x1
  have C2 := half_call S' S hS2 hS1 x2
  have C3 := fun h => half_call S (List.replicate 512 0) hS1 (by simp) (hSZ h).1
  have C4 := fun h => half_call (List.replicate 512 0) S (by simp) hS1 (hSZ h).2
  clear hSZ x1 x2 hS1 hS2
  have k1 : ∀ W : World, (Instr.makeSlice 54 (.int .i64 512) (.int .i64 512)).run Tryd.prog W = .ok (.slice (some ⟨W.heap.size, 0, none⟩) 512 512) (W.alloc (.cells (madeCells #[.int .u8 0] 512) 5)) := fun W => make_zeros W 512 (by decide)
  have k2 : ∀ W : World, (convert 54 9 (.slice (some ⟨W.heap.size, 0, none⟩) 512 512)).run Tryd.prog (W.alloc (.cells (madeCells #[.int .u8 0] 512) 5)) = .ok (.string (M.bs (List.replicate 512 0))) (W.alloc (.cells (madeCells #[.int .u8 0] 512) 5)) := fun W => conv_zeros W 512
  generalize M.bs (List.replicate 512 0) = ZZ at *
  generalize M.bs S = SS at *
  generalize M.bs S' = ST at *
  have y1a : (SS.extract 0 256).size = 256 := by rw [ByteArray.size_extract, z1]; rfl
  have y1b : (SS.extract 256 512).size = 256 := by rw [ByteArray.size_extract, z1]; rfl
  have y2a : (ST.extract 0 256).size = 256 := by rw [ByteArray.size_extract, z2]; rfl
  have y2b : (ST.extract 256 512).size = 256 := by rw [ByteArray.size_extract, z2]; rfl
  have y3a : (ZZ.extract 0 256).size = 256 := by rw [ByteArray.size_extract, z3]; rfl
  have y3b : (ZZ.extract 256 512).size = 256 := by rw [ByteArray.size_extract, z3]; rfl
  generalize h1a : SS.extract 0 256 = sa at *
  generalize h1b : SS.extract 256 512 = sb at *
  generalize h2a : ST.extract 0 256 = ta at *
  generalize h2b : ST.extract 256 512 = tb at *
  generalize h3a : ZZ.extract 0 256 = za at *
  generalize h3b : ZZ.extract 256 512 = zb at *
  have q0 : (n0 == m0) = false := by simp [hnm]
  go_wp2_with fail
  generalize madeCells #[.int .u8 0] 512 = zc at *
  have hb9 : Bel w7 (w7.alloc (.cells zc 5)) := Bel.al (Below.refl _ _) _
  have c9 := hid (((c5.out.bel b6).bel b7).bel hb9)
  have bb9 := bb7.tr hb9
  generalize w7.alloc (.cells zc 5) = w9 at *
  have HC : ∀ W, Bel w9.drew W → W.cell? ⟨w2.heap.size, 0, none⟩ = some (.int .i64 n0) := fun W h => (Bt.bel (w := w9.drew) c9.out h).cells.1
  clear t0 t1 t2 t3 t4 t5 s0 s1 s2 s3 s4 s5 VX VB VW c5 d3 d4 c9 k1 k2
  have hb0 : Bel w9.drew w9.drew := Below.refl _ _
  have hS := HC _ hb0
  have bb2 := bb9.dr
  by_cases h0 : n0 = 0
  · subst h0
    clear C3 C4
    refine wp_normal ?_
    refine region_until (S := fun W : World => W.cell? ⟨w2.heap.size, 0, none⟩ = some (.int .i64 0)) (m := 39) (by kernel_rfl) ?_
    refine take_first (i := 0) rfl (by kernel_rfl) (by kernel_rfl) (by kernel_rfl) (fun _ _ _ h => absurd h.1 (by simp)) (.one ⟨_, rfl, ⟨0, .phase⟩, by simp, rfl, rfl⟩) Kept.begin (v := .string SS) (Or.inl ⟨by rfl, fun w hSw => by go_simp⟩) hS ?_
    simp only [Act.put]
    refine take_first (i := 1) rfl (by kernel_rfl) (by kernel_rfl) (by kernel_rfl) (fun _ _ _ h => absurd h.1 (by simp)) (.one ⟨_, rfl, ⟨1, .phase⟩, by simp, rfl, rfl⟩) (Kept.begin.next (j := 0) (by kernel_rfl)) (v := .string sa) (Or.inl ⟨by rfl, fun w hSw => by go_simp⟩) hS ?_
    simp only [Act.put]
    refine until_ready (rs := [2]) (by kernel_rfl) (by simp) ?_
    intro jj hjj
    simp only [List.mem_cons, List.not_mem_nil, or_false] at hjj
    subst hjj
    refine wpOp_step rfl (fun KX hKX => ?_)
    have HX := hid hKX
    clear hKX
    go_simp
    refine HX.out _ _ ⟨fun _ => hS, ?_⟩
    clear HX
    refine until_ready (rs := [3]) (by kernel_rfl) (by simp) ?_
    intro jj hjj
    simp only [List.mem_cons, List.not_mem_nil, or_false] at hjj
    subst hjj
    refine wpOp_step rfl (fun KX hKX => ?_)
    have HX := hid hKX
    clear hKX
    go_simp
    refine HX.out _ _ ⟨fun _ => hS, ?_⟩
    clear HX
    refine until_ready (rs := [4]) (by kernel_rfl) (by simp) ?_
    intro jj hjj
    simp only [List.mem_cons, List.not_mem_nil, or_false] at hjj
    subst hjj
    refine wpOp_step rfl (fun KX hKX => ?_)
    have HX := hid hKX
    clear hKX
    go_simp
    refine HX.out _ _ ⟨fun _ => hS, ?_⟩
    clear HX
    refine until_ready (rs := [5]) (by kernel_rfl) (by simp) ?_
    intro jj hjj
    simp only [List.mem_cons, List.not_mem_nil, or_false] at hjj
    subst hjj
    refine wpOp_step rfl (fun KX hKX => ?_)
    have HX := hid hKX
    clear hKX
    refine stepW (by simp [Region.wanted]) _ (by rfl) _ (by rfl) (C1 _ (hT.bel bb2)) ?_
    rintro e w4 ⟨rfl, b4⟩
    have hb0 := hb0.tr b4
    have bb2 := bb2.tr b4
    have hS := HC _ hb0
    refine ⟨_, rfl, ?_⟩
    refine HX.out _ _ ⟨fun _ => hS, ?_⟩
    clear HX
    simp only [Act.put]
    refine until_ready (rs := [6]) (by kernel_rfl) (by simp) ?_
    intro jj hjj
    simp only [List.mem_cons, List.not_mem_nil, or_false] at hjj
    subst hjj
    refine wpOp_step rfl (fun KX hKX => ?_)
    have HX := hid hKX
    clear hKX
    go_simp
    refine HX.out _ _ ⟨fun _ => hS, ?_⟩
    clear HX
    refine until_ready (rs := [7]) (by kernel_rfl) (by simp) ?_
    intro jj hjj
    simp only [List.mem_cons, List.not_mem_nil, or_false] at hjj
    subst hjj
    refine wpOp_step rfl (fun KX hKX => ?_)
    have HX := hid hKX
    clear hKX
    go_simp
    refine HX.out _ _ ⟨fun _ => hS, ?_⟩
    clear HX
    refine take_first (i := 8) rfl (by kernel_rfl) (by kernel_rfl) (by kernel_rfl) (fun _ _ _ h => absurd h.1 (by simp)) (.more (.more (.more (.more (.more (.one (p := 9) ⟨_, rfl, ⟨8, .data⟩, by simp, rfl, rfl⟩) (q := 12) ⟨_, rfl, ⟨9, .data⟩, by simp, rfl, rfl⟩) (q := 13) ⟨_, rfl, ⟨12, .data⟩, by simp, rfl, rfl⟩) (q := 16) ⟨_, rfl, ⟨13, .chain⟩, by simp, rfl, rfl⟩) (q := 38) ⟨_, rfl, ⟨16, .data⟩, by simp, rfl, rfl⟩) ⟨_, rfl, ⟨38, .data⟩, by simp, rfl, rfl⟩) ((((((((Kept.begin.next (j := 0) (by kernel_rfl)).next (j := 1) (by kernel_rfl)).next (j := 2) (by kernel_rfl)).next (j := 3) (by kernel_rfl)).next (j := 4) (by kernel_rfl)).next (j := 5) (by kernel_rfl)).next (j := 6) (by kernel_rfl)).next (j := 7) (by kernel_rfl)) (v := .string ST) (Or.inl ⟨by rfl, fun w hSw => by go_simp⟩) hS ?_
    simp only [Act.put]
    refine take_first (i := 9) rfl (by kernel_rfl) (by kernel_rfl) (by kernel_rfl) (fun _ _ _ h => absurd h.1 (by simp)) (.more (.more (.more (.more (.one (p := 12) ⟨_, rfl, ⟨9, .data⟩, by simp, rfl, rfl⟩) (q := 13) ⟨_, rfl, ⟨12, .data⟩, by simp, rfl, rfl⟩) (q := 16) ⟨_, rfl, ⟨13, .chain⟩, by simp, rfl, rfl⟩) (q := 38) ⟨_, rfl, ⟨16, .data⟩, by simp, rfl, rfl⟩) ⟨_, rfl, ⟨38, .data⟩, by simp, rfl, rfl⟩) (((((((((Kept.begin.next (j := 0) (by kernel_rfl)).next (j := 1) (by kernel_rfl)).next (j := 2) (by kernel_rfl)).next (j := 3) (by kernel_rfl)).next (j := 4) (by kernel_rfl)).next (j := 5) (by kernel_rfl)).next (j := 6) (by kernel_rfl)).next (j := 7) (by kernel_rfl)).next (j := 8) (by kernel_rfl)) (v := .string ta) (Or.inl ⟨by rfl, fun w hSw => by go_simp⟩) hS ?_
    simp only [Act.put]
    refine until_ready (rs := [10]) (by kernel_rfl) (by simp) ?_
    intro jj hjj
    simp only [List.mem_cons, List.not_mem_nil, or_false] at hjj
    subst hjj
    refine wpOp_step rfl (fun KX hKX => ?_)
    have HX := hid hKX
    clear hKX
    go_simp
    refine HX.out _ _ ⟨fun _ => hS, ?_⟩
    clear HX
    refine until_ready (rs := [11]) (by kernel_rfl) (by simp) ?_
    intro jj hjj
    simp only [List.mem_cons, List.not_mem_nil, or_false] at hjj
    subst hjj
    refine wpOp_step rfl (fun KX hKX => ?_)
    have HX := hid hKX
    clear hKX
    go_simp
    refine HX.out _ _ ⟨fun _ => hS, ?_⟩
    clear HX
    refine until_ready (rs := [12]) (by kernel_rfl) (by simp) ?_
    intro jj hjj
    simp only [List.mem_cons, List.not_mem_nil, or_false] at hjj
    subst hjj
    refine wpOp_step rfl (fun KX hKX => ?_)
    have HX := hid hKX
    clear hKX
    go_simp
    refine HX.out _ _ ⟨fun _ => hS, ?_⟩
    clear HX
    refine until_ready (rs := [13]) (by kernel_rfl) (by simp) ?_
    intro jj hjj
    simp only [List.mem_cons, List.not_mem_nil, or_false] at hjj
    subst hjj
    refine wpOp_step rfl (fun KX hKX => ?_)
    have HX := hid hKX
    clear hKX
    refine stepW (by simp [Region.wanted, yielded]) _ (by rfl) _ (by rfl) (C2 _ (hT.bel bb2)) ?_
    rintro e w4 ⟨rfl, b4⟩
    have hb0 := hb0.tr b4
    have bb2 := bb2.tr b4
    have hS := HC _ hb0
    refine ⟨_, rfl, ?_⟩
    refine HX.out _ _ ⟨fun _ => hS, ?_⟩
    clear HX
    simp only [Act.put]
    refine until_ready (rs := [14]) (by kernel_rfl) (by simp) ?_
    intro jj hjj
    simp only [List.mem_cons, List.not_mem_nil, or_false] at hjj
    subst hjj
    refine wpOp_step rfl (fun KX hKX => ?_)
    have HX := hid hKX
    clear hKX
    go_simp
    refine HX.out _ _ ⟨fun _ => hS, ?_⟩
    clear HX
    refine until_ready (rs := [15]) (by kernel_rfl) (by simp) ?_
    intro jj hjj
    simp only [List.mem_cons, List.not_mem_nil, or_false] at hjj
    subst hjj
    refine wpOp_step rfl (fun KX hKX => ?_)
    have HX := hid hKX
    clear hKX
    go_simp
    refine HX.out _ _ ⟨fun _ => hS, ?_⟩
    clear HX
    refine until_ready (rs := [16]) (by kernel_rfl) (by simp) ?_
    intro jj hjj
    simp only [List.mem_cons, List.not_mem_nil, or_false] at hjj
    subst hjj
    refine wpOp_step rfl (fun KX hKX => ?_)
    have HX := hid hKX
    clear hKX
    go_simp
    refine HX.out _ _ ⟨fun _ => hS, ?_⟩
    clear HX
    refine until_ready (rs := [17]) (by kernel_rfl) (by simp) ?_
    intro jj hjj
    simp only [List.mem_cons, List.not_mem_nil, or_false] at hjj
    subst hjj
    refine wpOp_step rfl (fun KX hKX => ?_)
    have HX := hid hKX
    clear hKX
    go_simp
    refine HX.out _ _ ⟨fun _ => hS, ?_⟩
    clear HX
    refine until_ready (rs := [18]) (by kernel_rfl) (by simp) ?_
    intro jj hjj
    simp only [List.mem_cons, List.not_mem_nil, or_false] at hjj
    subst hjj
    refine wpOp_step rfl (fun KX hKX => ?_)
    have HX := hid hKX
    clear hKX
    go_simp
    refine HX.out _ _ ⟨fun _ => hS, ?_⟩
    clear HX
    refine until_ready (rs := [19]) (by kernel_rfl) (by simp) ?_
    intro jj hjj
    simp only [List.mem_cons, List.not_mem_nil, or_false] at hjj
    subst hjj
    refine wpOp_step rfl (fun KX hKX => ?_)
    have HX := hid hKX
    clear hKX
    go_simp
    refine HX.out _ _ ⟨fun _ => hS, ?_⟩
    clear HX
    refine until_ready (rs := [20]) (by kernel_rfl) (by simp) ?_
    intro jj hjj
    simp only [List.mem_cons, List.not_mem_nil, or_false] at hjj
    subst hjj
    refine wpOp_step rfl (fun KX hKX => ?_)
    have HX := hid hKX
    clear hKX
    go_simp
    refine HX.out _ _ ⟨fun _ => hS, ?_⟩
    clear HX
    refine take_first (i := 21) rfl (by kernel_rfl) (by kernel_rfl) (by kernel_rfl) (fun _ _ _ h => absurd h.1 (by simp)) (.more (.more (.more (.more (.more (.one (p := 22) ⟨_, rfl, ⟨21, .data⟩, by simp, rfl, rfl⟩) (q := 25) ⟨_, rfl, ⟨22, .data⟩, by simp, rfl, rfl⟩) (q := 26) ⟨_, rfl, ⟨25, .data⟩, by simp, rfl, rfl⟩) (q := 28) ⟨_, rfl, ⟨26, .chain⟩, by simp, rfl, rfl⟩) (q := 34) ⟨_, rfl, ⟨28, .chain⟩, by simp, rfl, rfl⟩) ⟨_, rfl, ⟨34, .chain⟩, by simp, rfl, rfl⟩) (((((((((((((((((((((Kept.begin.next (j := 0) (by kernel_rfl)).next (j := 1) (by kernel_rfl)).next (j := 2) (by kernel_rfl)).next (j := 3) (by kernel_rfl)).next (j := 4) (by kernel_rfl)).next (j := 5) (by kernel_rfl)).next (j := 6) (by kernel_rfl)).next (j := 7) (by kernel_rfl)).next (j := 8) (by kernel_rfl)).next (j := 9) (by kernel_rfl)).next (j := 10) (by kernel_rfl)).next (j := 11) (by kernel_rfl)).next (j := 12) (by kernel_rfl)).next (j := 13) (by kernel_rfl)).next (j := 14) (by kernel_rfl)).next (j := 15) (by kernel_rfl)).next (j := 16) (by kernel_rfl)).next (j := 17) (by kernel_rfl)).next (j := 18) (by kernel_rfl)).next (j := 19) (by kernel_rfl)).next (j := 20) (by kernel_rfl)) (v := undef) (Or.inr ⟨by rfl, rfl⟩) hS ?_
    simp only [Act.put]
    refine take_first (i := 22) rfl (by kernel_rfl) (by kernel_rfl) (by kernel_rfl) (fun _ _ _ h => absurd h.1 (by simp)) (.more (.more (.more (.more (.one (p := 25) ⟨_, rfl, ⟨22, .data⟩, by simp, rfl, rfl⟩) (q := 26) ⟨_, rfl, ⟨25, .data⟩, by simp, rfl, rfl⟩) (q := 28) ⟨_, rfl, ⟨26, .chain⟩, by simp, rfl, rfl⟩) (q := 34) ⟨_, rfl, ⟨28, .chain⟩, by simp, rfl, rfl⟩) ⟨_, rfl, ⟨34, .chain⟩, by simp, rfl, rfl⟩) ((((((((((((((((((((((Kept.begin.next (j := 0) (by kernel_rfl)).next (j := 1) (by kernel_rfl)).next (j := 2) (by kernel_rfl)).next (j := 3) (by kernel_rfl)).next (j := 4) (by kernel_rfl)).next (j := 5) (by kernel_rfl)).next (j := 6) (by kernel_rfl)).next (j := 7) (by kernel_rfl)).next (j := 8) (by kernel_rfl)).next (j := 9) (by kernel_rfl)).next (j := 10) (by kernel_rfl)).next (j := 11) (by kernel_rfl)).next (j := 12) (by kernel_rfl)).next (j := 13) (by kernel_rfl)).next (j := 14) (by kernel_rfl)).next (j := 15) (by kernel_rfl)).next (j := 16) (by kernel_rfl)).next (j := 17) (by kernel_rfl)).next (j := 18) (by kernel_rfl)).next (j := 19) (by kernel_rfl)).next (j := 20) (by kernel_rfl)).next (j := 21) (by kernel_rfl)) (v := undef) (Or.inr ⟨by rfl, rfl⟩) hS ?_
    simp only [Act.put]
    refine until_ready (rs := [23]) (by kernel_rfl) (by simp) ?_
    intro jj hjj
    simp only [List.mem_cons, List.not_mem_nil, or_false] at hjj
    subst hjj
    refine wpOp_step rfl (fun KX hKX => ?_)
    have HX := hid hKX
    clear hKX
    go_simp
    refine HX.out _ _ ⟨fun _ => hS, ?_⟩
    clear HX
    refine until_ready (rs := [24]) (by kernel_rfl) (by simp) ?_
    intro jj hjj
    simp only [List.mem_cons, List.not_mem_nil, or_false] at hjj
    subst hjj
    refine wpOp_step rfl (fun KX hKX => ?_)
    have HX := hid hKX
    clear hKX
    go_simp
    refine HX.out _ _ ⟨fun _ => hS, ?_⟩
    clear HX
    refine until_ready (rs := [25]) (by kernel_rfl) (by simp) ?_
    intro jj hjj
    simp only [List.mem_cons, List.not_mem_nil, or_false] at hjj
    subst hjj
    refine wpOp_step rfl (fun KX hKX => ?_)
    have HX := hid hKX
    clear hKX
    go_simp
    refine HX.out _ _ ⟨fun _ => hS, ?_⟩
    clear HX
    refine until_ready (rs := [26]) (by kernel_rfl) (by simp) ?_
    intro jj hjj
    simp only [List.mem_cons, List.not_mem_nil, or_false] at hjj
    subst hjj
    refine wpOp_step rfl (fun KX hKX => ?_)
    have HX := hid hKX
    clear hKX
    go_simp
    refine HX.out _ _ ⟨fun _ => hS, ?_⟩
    clear HX
    refine until_ready (rs := [27]) (by kernel_rfl) (by simp) ?_
    intro jj hjj
    simp only [List.mem_cons, List.not_mem_nil, or_false] at hjj
    subst hjj
    refine wpOp_step rfl (fun KX hKX => ?_)
    have HX := hid hKX
    clear hKX
    go_simp
    refine HX.out _ _ ⟨fun _ => hS, ?_⟩
    clear HX
    refine until_ready (rs := [28]) (by kernel_rfl) (by simp) ?_
    intro jj hjj
    simp only [List.mem_cons, List.not_mem_nil, or_false] at hjj
    subst hjj
    refine wpOp_step rfl (fun KX hKX => ?_)
    have HX := hid hKX
    clear hKX
    go_simp
    refine HX.out _ _ ⟨fun _ => hS, ?_⟩
    clear HX
    refine take_first (i := 29) rfl (by kernel_rfl) (by kernel_rfl) (by kernel_rfl) (fun _ _ _ h => absurd h.1 (by simp)) (.more (.more (.more (.one (p := 30) ⟨_, rfl, ⟨29, .data⟩, by simp, rfl, rfl⟩) (q := 33) ⟨_, rfl, ⟨30, .data⟩, by simp, rfl, rfl⟩) (q := 34) ⟨_, rfl, ⟨33, .data⟩, by simp, rfl, rfl⟩) ⟨_, rfl, ⟨34, .chain⟩, by simp, rfl, rfl⟩) (((((((((((((((((((((((((((((Kept.begin.next (j := 0) (by kernel_rfl)).next (j := 1) (by kernel_rfl)).next (j := 2) (by kernel_rfl)).next (j := 3) (by kernel_rfl)).next (j := 4) (by kernel_rfl)).next (j := 5) (by kernel_rfl)).next (j := 6) (by kernel_rfl)).next (j := 7) (by kernel_rfl)).next (j := 8) (by kernel_rfl)).next (j := 9) (by kernel_rfl)).next (j := 10) (by kernel_rfl)).next (j := 11) (by kernel_rfl)).next (j := 12) (by kernel_rfl)).next (j := 13) (by kernel_rfl)).next (j := 14) (by kernel_rfl)).next (j := 15) (by kernel_rfl)).next (j := 16) (by kernel_rfl)).next (j := 17) (by kernel_rfl)).next (j := 18) (by kernel_rfl)).next (j := 19) (by kernel_rfl)).next (j := 20) (by kernel_rfl)).next (j := 21) (by kernel_rfl)).next (j := 22) (by kernel_rfl)).next (j := 23) (by kernel_rfl)).next (j := 24) (by kernel_rfl)).next (j := 25) (by kernel_rfl)).next (j := 26) (by kernel_rfl)).next (j := 27) (by kernel_rfl)).next (j := 28) (by kernel_rfl)) (v := undef) (Or.inr ⟨by rfl, rfl⟩) hS ?_
    simp only [Act.put]
    refine take_first (i := 30) rfl (by kernel_rfl) (by kernel_rfl) (by kernel_rfl) (fun _ _ _ h => absurd h.1 (by simp)) (.more (.more (.one (p := 33) ⟨_, rfl, ⟨30, .data⟩, by simp, rfl, rfl⟩) (q := 34) ⟨_, rfl, ⟨33, .data⟩, by simp, rfl, rfl⟩) ⟨_, rfl, ⟨34, .chain⟩, by simp, rfl, rfl⟩) ((((((((((((((((((((((((((((((Kept.begin.next (j := 0) (by kernel_rfl)).next (j := 1) (by kernel_rfl)).next (j := 2) (by kernel_rfl)).next (j := 3) (by kernel_rfl)).next (j := 4) (by kernel_rfl)).next (j := 5) (by kernel_rfl)).next (j := 6) (by kernel_rfl)).next (j := 7) (by kernel_rfl)).next (j := 8) (by kernel_rfl)).next (j := 9) (by kernel_rfl)).next (j := 10) (by kernel_rfl)).next (j := 11) (by kernel_rfl)).next (j := 12) (by kernel_rfl)).next (j := 13) (by kernel_rfl)).next (j := 14) (by kernel_rfl)).next (j := 15) (by kernel_rfl)).next (j := 16) (by kernel_rfl)).next (j := 17) (by kernel_rfl)).next (j := 18) (by kernel_rfl)).next (j := 19) (by kernel_rfl)).next (j := 20) (by kernel_rfl)).next (j := 21) (by kernel_rfl)).next (j := 22) (by kernel_rfl)).next (j := 23) (by kernel_rfl)).next (j := 24) (by kernel_rfl)).next (j := 25) (by kernel_rfl)).next (j := 26) (by kernel_rfl)).next (j := 27) (by kernel_rfl)).next (j := 28) (by kernel_rfl)).next (j := 29) (by kernel_rfl)) (v := undef) (Or.inr ⟨by rfl, rfl⟩) hS ?_
    simp only [Act.put]
    refine until_ready (rs := [31]) (by kernel_rfl) (by simp) ?_
    intro jj hjj
    simp only [List.mem_cons, List.not_mem_nil, or_false] at hjj
    subst hjj
    refine wpOp_step rfl (fun KX hKX => ?_)
    have HX := hid hKX
    clear hKX
    go_simp
    refine HX.out _ _ ⟨fun _ => hS, ?_⟩
    clear HX
    refine until_ready (rs := [32]) (by kernel_rfl) (by simp) ?_
    intro jj hjj
    simp only [List.mem_cons, List.not_mem_nil, or_false] at hjj
    subst hjj
    refine wpOp_step rfl (fun KX hKX => ?_)
    have HX := hid hKX
    clear hKX
    go_simp
    refine HX.out _ _ ⟨fun _ => hS, ?_⟩
    clear HX
    refine until_ready (rs := [33]) (by kernel_rfl) (by simp) ?_
    intro jj hjj
    simp only [List.mem_cons, List.not_mem_nil, or_false] at hjj
    subst hjj
    refine wpOp_step rfl (fun KX hKX => ?_)
    have HX := hid hKX
    clear hKX
    go_simp
    refine HX.out _ _ ⟨fun _ => hS, ?_⟩
    clear HX
    refine until_ready (rs := [34]) (by kernel_rfl) (by simp) ?_
    intro jj hjj
    simp only [List.mem_cons, List.not_mem_nil, or_false] at hjj
    subst hjj
    refine wpOp_step rfl (fun KX hKX => ?_)
    have HX := hid hKX
    clear hKX
    go_simp
    refine HX.out _ _ ⟨fun _ => hS, ?_⟩
    clear HX
    refine until_ready (rs := [35]) (by kernel_rfl) (by simp) ?_
    intro jj hjj
    simp only [List.mem_cons, List.not_mem_nil, or_false] at hjj
    subst hjj
    refine wpOp_step rfl (fun KX hKX => ?_)
    have HX := hid hKX
    clear hKX
    go_simp
    refine HX.out _ _ ⟨fun _ => hS, ?_⟩
    clear HX
    refine until_ready (rs := [36]) (by kernel_rfl) (by simp) ?_
    intro jj hjj
    simp only [List.mem_cons, List.not_mem_nil, or_false] at hjj
    subst hjj
    refine wpOp_step rfl (fun KX hKX => ?_)
    have HX := hid hKX
    clear hKX
    go_simp
    refine HX.out _ _ ⟨fun _ => hS, ?_⟩
    clear HX
    refine until_ready (rs := [37]) (by kernel_rfl) (by simp) ?_
    intro jj hjj
    simp only [List.mem_cons, List.not_mem_nil, or_false] at hjj
    subst hjj
    refine wpOp_step rfl (fun KX hKX => ?_)
    have HX := hid hKX
    clear hKX
    go_simp
    refine HX.out _ _ ⟨fun _ => hS, ?_⟩
    clear HX
    refine until_ready (rs := [38]) (by kernel_rfl) (by simp) ?_
    intro jj hjj
    simp only [List.mem_cons, List.not_mem_nil, or_false] at hjj
    subst hjj
    refine wpOp_step rfl (fun KX hKX => ?_)
    have HX := hid hKX
    clear hKX
    go_simp
    refine HX.out _ _ ⟨fun _ => hS, ?_⟩
    clear HX
    refine until_ready (rs := [39]) (by kernel_rfl) (by simp) ?_
    intro jj hjj
    simp only [List.mem_cons, List.not_mem_nil, or_false] at hjj
    subst hjj
    refine wpOp_step rfl (fun KX hKX => ?_)
    have HX := hid hKX
    clear hKX
    go_simp
    refine HX.out _ _ ⟨fun _ => hS, ?_⟩
    clear HX
    refine until_done (by kernel_rfl) ⟨rfl, ?_⟩ _
    go_wp2_with fail
    go_ret
    exact ⟨rfl, bb2⟩
  · have C3 := C3 h0
    have C4 := C4 h0
    have C : ∀ x : ByteArray, (x = sa ++ tb ∨ x = ta ++ sb ∨ x = sa ++ zb ∨ x = za ++ sb) → ∀ W, Tab W → Calls Tryd.prog 19 #[.string x] W fun e w' => e = .returned (.bool false) ∧ Bel W w' := by
      rintro x (rfl | rfl | rfl | rfl)
      · exact C1
      · exact C2
      · exact C3
      · exact C4
    clear C1 C2 C3 C4
    have q1 : (n0 == 0) = false := by simp [h0]
    have q2 : decide (n0 = 0) = false := by simp [h0]
    go_region_held3 (fun W => W.cell? ⟨w2.heap.size, 0, none⟩ = some (.int .i64 n0))
      (first | assumption | exact HC _ hb0)
      (first | (go_at_call 19; refine (C _ (by simp) _ (hT.bel bb2)).mono ?_; rintro e w4 ⟨rfl, b4⟩; have hb0 := hb0.tr b4; have bb2 := bb2.tr b4))
    go_wp2_with fail
    go_ret
    exact ⟨rfl, bb2⟩
end Go.Proofs.YtaepbmcmggnmpaaDoor
