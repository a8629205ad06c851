/-
  The contracts of slices.Clone, of the device's Fuse and Copy, walked.
-/
import Derived.Test.YtoelaemneoabfaaN
import Derived.Lib.MinMax
namespace Go.Proofs.Ytoelaemneoabfaa
open Go.RowKit

theorem cellsN {w : World} {g off : Nat} {L : List Int} (h : ∀ j (h : j < L.length), w.cell? ⟨g, off + j, none⟩ = some (.int .i64 L[j])) : ∀ j u, (csN L)[j]? = some u → w.cell? ⟨g, off + j, none⟩ = some u := by
  intro j u hj
  have hjl : j < L.length := by have := (List.getElem?_eq_some_iff.1 hj).1; rw [csN_length] at this; omega
  rw [h j hjl, ← hj]
  simp [csN, hjl]
theorem cellsW {w : World} {g off : Nat} {L : List M.Wr} (h : RowW w g off L) : ∀ j u, (csW L)[j]? = some u → w.cell? ⟨g, off + j, none⟩ = some u := by
  intro j u hj
  have hjl : j < L.length * 2 := by rw [← csW_length]; exact (List.getElem?_eq_some_iff.1 hj).1
  obtain ⟨k0, k1⟩ := csW_at L (j / 2) (by omega)
  obtain ⟨c0, c1⟩ := h (j / 2) (by omega)
  by_cases hm : j % 2 = 0
  · have e : j / 2 * 2 = j := by omega
    rw [e] at k0 c0
    rw [k0] at hj
    rw [c0]; exact hj
  · have e : j / 2 * 2 + 1 = j := by omega
    rw [e] at k1
    rw [Nat.add_assoc, e] at c1
    rw [k1] at hj
    rw [c1]; exact hj
theorem row_base {base : Nat} {w : World} {e : TypeId} {size : Nat} {v : Value} {n : Nat} {xs : List Value} (h : w.ownsRow base e size v n xs) : w.ownsRow 0 e size v n xs ∧ ∀ g, v.ownBlock = some g → base ≤ g :=
  ⟨⟨h.1, by
    rcases h.2 with h1 | ⟨g, cap, cur, hv, hg, r⟩
    · exact .inl h1
    · exact .inr ⟨g, cap, cur, hv, Nat.zero_le _, r⟩⟩, fun g hg => (h.lt g hg).1⟩
def SeesW (w : World) (v : Value) (L : List M.Wr) : Prop := ∃ a cap, v = .slice a L.length cap ∧ (L = [] ∨ ∃ g off, a = some ⟨g, off, none⟩ ∧ RowW w g off L)
theorem seesW_of {w : World} {v : Value} {L : List M.Wr} (h : w.ownsRow 0 65 2 v L.length (csW L)) : SeesW w v L := by
  rcases rowW_of h with ⟨rfl, rfl⟩ | ⟨g, cap, rfl, hg, hr⟩
  · exact ⟨none, 0, rfl, .inl rfl⟩
  · exact ⟨_, cap, rfl, .inr ⟨g, 0, rfl, hr⟩⟩
set_option maxHeartbeats 2000000 in
set_option maxRecDepth 100000 in
theorem cloneN (L : List Int) (v : Value) (w : World) (hL : L.length ≤ 1000) (hs : ReadsN w v L) :
    Calls Try.prog 28 #[v] w fun e w' => ∃ a cap, e = .returned (.slice a L.length cap) ∧ Bel w w' ∧ w'.ownsRow w.heap.size 3 1 (.slice a L.length cap) L.length (csN L) := by
  obtain ⟨i0, hi, hz0, hz1, hz2⟩ := info_parts info3
  obtain ⟨a, cap, rfl, h⟩ := hs
  have q : ∀ (w : World) (a : Option Addr) (n c n' c' : Nat), (binOp .eql 29 (.slice a n c) (.slice none n' c')).run Try.prog w = .ok (.bool a.isNone) w := fun w a n c n' c' => Lib.run_eql_slice_nil w _ _ a n c n' c' Try.underlying29
  cases a with
  | none =>
    have h0 : L = [] := by
      rcases h with h | ⟨_, _, h, _⟩
      · exact h
      · cases h
    subst h0
    clear h
    go_enter Try.func28, Try.ntmps28
    go_wp2_with fail
    go_ret
    exact ⟨_, _, rfl, Below.refl _ _, World.ownsRow_nil _ _ _ _⟩
  | some a =>
    have hc : Hid (∀ j u, (csN L)[j]? = some u → w.cell? (a.add j) = some u) := by
      rcases h with rfl | ⟨g, off, h, hr⟩
      · intro j u hj; simp [csN] at hj
      · cases h
        intro j u hj
        rw [add_lit]
        exact cellsN hr j u hj
    clear h
    go_enter Try.func28, Try.ntmps28
    go_wp2_with (at_builtin; refine wpList_append_own _ rfl _ _ 29 rfl w.heap.size 3 i0 _ 1 8 Try.underlying29 hi hz0 hz1 hz2 rfl (by decide) _ _ _ rfl (World.ownsRow_made w #[] 0 (Nat.le_refl _) (Nat.zero_le _) (by simp)) a L.length cap (csN L) rfl ?qc1 ?qc2 ?qc3 ?qc4 ?qc5 ?qc6 ?_)
    case qc1 => exact csN_length L
    case qc2 =>
      intro j u hj
      exact Lib.cell?_alloc_some _ (hc.out j u hj)
    case qc3 => exact csN_one L
    case qc4 => unfold maxLen; omega
    case qc5 => omega
    case qc6 => simp
    intro v' w1 hown hgrow hnil
    obtain ⟨a', cap', rfl⟩ : ∃ a' cap', v' = .slice a' L.length cap' := by
      rcases hown.2 with ⟨h1, h2⟩ | ⟨g, cap, cur, hv, _⟩
      · exact ⟨none, 0, by rw [h1, h2]⟩
      · exact ⟨_, _, hv⟩
    have hro := hid hown
    have hb : Bel w w1 := ((Below.refl _ w).alloc (Nat.le_refl _) _).grown hgrow (by simp) (by intro k hk; simp [Value.ownBlock] at hk; omega)
    clear hown hgrow hnil
    go_wp2
    go_ret
    exact ⟨a', cap', rfl, hb, hro.out⟩
set_option maxHeartbeats 2000000 in
set_option maxRecDepth 100000 in
theorem cloneW (L : List M.Wr) (v : Value) (w : World) (hL : L.length ≤ 1000) (hs : SeesW w v L) :
    Calls Try.prog 27 #[v] w fun e w' => ∃ a cap, e = .returned (.slice a L.length cap) ∧ Bel w w' ∧ w'.ownsRow w.heap.size 65 2 (.slice a L.length cap) L.length (csW L) := by
  obtain ⟨i0, hi, hz0, hz1, hz2⟩ := info_parts info65
  obtain ⟨a, cap, rfl, h⟩ := hs
  have q : ∀ (w : World) (a : Option Addr) (n c n' c' : Nat), (binOp .eql 59 (.slice a n c) (.slice none n' c')).run Try.prog w = .ok (.bool a.isNone) w := fun w a n c n' c' => Lib.run_eql_slice_nil w _ _ a n c n' c' Try.underlying59
  cases a with
  | none =>
    have h0 : L = [] := by
      rcases h with h | ⟨_, _, h, _⟩
      · exact h
      · cases h
    subst h0
    clear h
    go_enter Try.func27, Try.ntmps27
    go_wp2_with fail
    go_ret
    exact ⟨_, _, rfl, Below.refl _ _, World.ownsRow_nil _ _ _ _⟩
  | some a =>
    have hc : Hid (∀ j u, (csW L)[j]? = some u → w.cell? (a.add j) = some u) := by
      rcases h with rfl | ⟨g, off, h, hr⟩
      · intro j u hj; simp [csW] at hj
      · cases h
        intro j u hj
        rw [add_lit]
        exact cellsW hr j u hj
    clear h
    go_enter Try.func27, Try.ntmps27
    go_wp2_with (at_builtin; refine wpList_append_own _ rfl _ _ 59 rfl w.heap.size 65 i0 _ 2 24 Try.underlying59 hi hz0 hz1 hz2 rfl (by decide) _ _ _ rfl (World.ownsRow_made w #[] 0 (Nat.le_refl _) (Nat.zero_le _) (by simp)) a L.length cap (csW L) rfl ?qc1 ?qc2 ?qc3 ?qc4 ?qc5 ?qc6 ?_)
    case qc1 => exact csW_length L
    case qc2 =>
      intro j u hj
      exact Lib.cell?_alloc_some _ (hc.out j u hj)
    case qc3 => exact csW_one L
    case qc4 => unfold maxLen; omega
    case qc5 => omega
    case qc6 => simp
    intro v' w1 hown hgrow hnil
    obtain ⟨a', cap', rfl⟩ : ∃ a' cap', v' = .slice a' L.length cap' := by
      rcases hown.2 with ⟨h1, h2⟩ | ⟨g, cap, cur, hv, _⟩
      · exact ⟨none, 0, by rw [h1, h2]⟩
      · exact ⟨_, _, hv⟩
    have hro := hid hown
    have hb : Bel w w1 := ((Below.refl _ w).alloc (Nat.le_refl _) _).grown hgrow (by simp) (by intro k hk; simp [Value.ownBlock] at hk; omega)
    clear hown hgrow hnil
    go_wp2
    go_ret
    exact ⟨a', cap', rfl, hb, hro.out⟩
def fuse (S : St) (n : Int) (K : List Int) : St := { S with fuse := max n 1, keep := K }
/-- A new row put in the place of keep. -/
theorem Dev.keepTo {X : Nat → Prop} {w w' : World} {b : Nat} {S : St} {K : List Int} {v' : Value} (h : Dev X w b S) (k : Bel w w') (hr : w'.ownsRow w.heap.size 3 1 v' K.length (csN K)) :
    Dev X (w'.setCell ⟨b, 6, none⟩ v') b { S with keep := K } ∧ Keep X w (w'.setCell ⟨b, 6, none⟩ v') ∧ w'.frozen? ⟨b, 6, none⟩ = false ∧ ∃ kv, w'.cell? ⟨b, 6, none⟩ = some kv := by
  obtain ⟨mb, n, wv, kv, h⟩ := h
  have hd := h.bel k
  obtain ⟨r0, rg⟩ := row_base hr
  have ks := (Keep.refl (fun j => j ≠ b) w').set (p := ⟨b, 6, none⟩) (by simp) v'
  obtain ⟨p1, p2, p3, p4, p5⟩ := hd.parts ks
  have n2 := own_ne hd.blk (by decide) r0
  exact ⟨⟨mb, n, wv, v', hd.blk.set 6 v', p1, h.room, p2, row_keep r0 ks (fun g hg e => n2 (by rw [← e]; exact hg)), h.xb, h.xm, h.xw, fun g hg hX => by have := rg g hg; have := h.lt g hX; omega, p4⟩, (Keep.of_bel k h.lt).tr p5, hd.blk.frozen 6, kv, by rw [hd.blk.cell]; rfl⟩
theorem good_fuse {N : Nat} {S : St} (g : Good N S) (n : Int) (K : List Int) (hn : n ≤ 9223372036854775807) (hK : K.length ≤ 1000) : Good N (fuse S n K) :=
  ⟨g.n, g.size1, g.size2, g.dat, g.fin, g.sec, g.room, g.done0, g.done, by simp [Ytoelaemneoabfaa.fuse]; omega, by simp [Ytoelaemneoabfaa.fuse]; omega, hK⟩
set_option maxHeartbeats 1000000 in
theorem fuse_any (X : Nat → Prop) (b : Nat) (S : St) (n : Int) (K : List Int) (kv : Value) (w : World) (h : Dev X w b S) (hk : w.ownsRow 0 3 1 kv K.length (csN K)) (hK : K.length ≤ 1000) :
    Calls Try.prog 21 #[.pointer (some ⟨b, 0, none⟩), .int .i64 n, kv] w fun e w' => e = .returned (.tuple #[]) ∧ Dev X w' b (fuse S n K) ∧ Keep X w w' := by
  obtain ⟨_, _, _, c5, f⟩ := h.cells
  have f5 := f 5
  have HF := hid (h.fuse (max n 1))
  have hkb : ReadsN (w.setCell ⟨b, 5, none⟩ (.int .i64 (max n 1))) kv K := by
    obtain ⟨mb, m, wv, kv', h⟩ := h
    have n2 := own_ne h.blk (by decide) hk
    exact readsN_of (row_keep hk ((Keep.refl (fun j => j ≠ b) w).set (p := ⟨b, 5, none⟩) (by simp) _) (fun g hg e => n2 (by rw [← e]; exact hg)))
  have HC := cloneN K kv (w.setCell ⟨b, 5, none⟩ (.int .i64 (max n 1))) hK hkb
  have HE : Hid (fuse S n K = { S with fuse := max n 1, keep := K }) := rfl
  clear h f hk hkb
  have hmx : max n 1 = max n 1 := rfl
  go_enter Try.func21, Try.ntmps21
  go_wp2_with (go_at_call 28; refine HC.mono ?_; rintro e w1 ⟨a, cap, rfl, b1, r1⟩; obtain ⟨q1, q2, q3, kv2, q4⟩ := HF.out.1.keepTo b1 r1; have HQ := hid q1; clear q1 r1)
  go_end0
  exact ⟨rfl, by rw [HE.out]; exact HQ.out, HF.out.2.tr q2⟩
set_option maxHeartbeats 2000000 in
theorem cloneM (mb n : Nat) (F : Int → M.Wr) (w : World) (h : MapW w mb n F) :
    Calls Try.prog 26 #[.map (some mb)] w fun e w' => e = .returned (.map (some w.heap.size)) ∧ MapW w' w.heap.size n F ∧ Bel w w' := by
  obtain ⟨D, ⟨es, clock, hb, h1⟩, h2⟩ := h
  have hq := fun w => run_eql_map_nil_sl (P := Try.prog) w 58 _ _ (some mb) Try.underlying58
  go_enter Try.func26, Try.ntmps26
  go_wp2
  rw [run_callFunc_extern Try.func38 (by kernel_rfl) (by kernel_rfl) (by kernel_rfl) (e := Extern.MapsClone.clone) (by kernel_rfl), run_maps_clone_sl w 58 hb]
  simp only [Result.andThen]
  rw [Oper.upon_value]
  go_wp2
  rw [run_typeAssert_map_sl _ 58 20 _ _ _ Try.underlying58]
  simp only [Result.andThen]
  rw [Oper.upon_value]
  go_wp2
  go_ret
  exact ⟨rfl, ⟨D, ⟨es, clock, heap_alloc_new _ _, h1⟩, h2⟩, Bel.al (Below.refl _ _) _⟩
set_option maxHeartbeats 2000000 in
theorem copy_any (X : Nat → Prop) (b : Nat) (S : St) (N : Nat) (w : World) (h : Dev X w b S) (g : Good N S) :
    Calls Try.prog 12 #[.pointer (some ⟨b, 0, none⟩)] w fun e w' => ∃ c, e = .returned (.pointer (some ⟨c, 0, none⟩)) ∧ Dev (fun j => j < w.heap.size) w' c S ∧ Bel w w' := by
  obtain ⟨mb, n, wv, kv, h⟩ := h
  have hL : S.wait.length ≤ 1000 := by have := g.room; have := g.n; omega
  have hK := g.keep
  have c0 := h.blk.cell 0
  have c1 := h.blk.cell 1
  have c2 := h.blk.cell 2
  have c3 := h.blk.cell 3
  have c4 := h.blk.cell 4
  have c5 := h.blk.cell 5
  have c6 := h.blk.cell 6
  simp at c0 c1 c2 c3 c4 c5 c6
  have HD := hid h
  clear h g
  obtain ⟨wa, wcap, rfl, _⟩ := seesW_of HD.out.wait
  obtain ⟨ka, kcap, rfl, _⟩ := readsN_of HD.out.keep
  have hbl := HD.out.blk.lt
  have bW : Bel w (w.alloc (.cells #[.int .i64 S.size, .map (some mb), .slice wa S.wait.length wcap, .int .i64 S.done, .bool S.off, .int .i64 S.fuse, .slice ka S.keep.length kcap] 61)) := Bel.al (Below.refl _ _) _
  have d1 := (bel_cell bW hbl 1).trans c1
  have HM := cloneM mb n S.fin (w.alloc (.cells #[.int .i64 S.size, .map (some mb), .slice wa S.wait.length wcap, .int .i64 S.done, .bool S.off, .int .i64 S.fuse, .slice ka S.keep.length kcap] 61)) (HD.out.map.same (bW.block mb HD.out.map.lt))
  have K1 : Hid (Blk (w.alloc (.cells #[.int .i64 S.size, .map (some mb), .slice wa S.wait.length wcap, .int .i64 S.done, .bool S.off, .int .i64 S.fuse, .slice ka S.keep.length kcap] 61)) w.heap.size #[.int .i64 S.size, .map (some mb), .slice wa S.wait.length wcap, .int .i64 S.done, .bool S.off, .int .i64 S.fuse, .slice ka S.keep.length kcap] 61) := Blk.new _ _ _
  have hz : w.heap.size < (w.alloc (.cells #[.int .i64 S.size, .map (some mb), .slice wa S.wait.length wcap, .int .i64 S.done, .bool S.off, .int .i64 S.fuse, .slice ka S.keep.length kcap] 61)).heap.size := by simp
  have HZ := hid hz
  clear hz
  go_enter Try.func12, Try.ntmps12
  go_wp2_with fail
  refine HM.mono ?_
  clear HM
  rintro e w2 ⟨rfl, m2, b2⟩
  have k2 : Blk w2 w.heap.size #[.int .i64 S.size, .map (some mb), .slice wa S.wait.length wcap, .int .i64 S.done, .bool S.off, .int .i64 S.fuse, .slice ka S.keep.length kcap] 61 := K1.out.below b2 HZ.out
  have t2 := k2.cell 1
  have f2 := k2.frozen 1
  simp at t2
  have B2 : Hid (Bel w w2) := bW.tr b2
  have K2 := hid k2
  have M2 := hid m2
  have Z2 : Hid ((w.alloc (.cells #[.int .i64 S.size, .map (some mb), .slice wa S.wait.length wcap, .int .i64 S.done, .bool S.off, .int .i64 S.fuse, .slice ka S.keep.length kcap] 61)).heap.size < w2.heap.size) := m2.lt
  clear k2 m2 b2 bW d1 c0 c1 c3 c4 c5 K1
  generalize hmn : (w.alloc (.cells #[.int .i64 S.size, .map (some mb), .slice wa S.wait.length wcap, .int .i64 S.done, .bool S.off, .int .i64 S.fuse, .slice ka S.keep.length kcap] 61)).heap.size = mn at *
  clear hmn
  have hcm : w.heap.size < mn := HZ.out
  have W3 : Hid (Bel w (w2.setCell ⟨w.heap.size, 1, none⟩ (.map (some mn))) ∧ Blk (w2.setCell ⟨w.heap.size, 1, none⟩ (.map (some mn))) w.heap.size _ 61 ∧ MapW (w2.setCell ⟨w.heap.size, 1, none⟩ (.map (some mn))) mn n S.fin) :=
    ⟨B2.out.setCell (p := ⟨w.heap.size, 1, none⟩) (by simp) _, K2.out.set 1 (.map (some mn)), M2.out.same (Below.heap_setCell _ _ _ _ (by simp; omega))⟩
  have HW := cloneW S.wait (.slice wa S.wait.length wcap) (w2.setCell ⟨w.heap.size, 1, none⟩ (.map (some mn))) hL (seesW_of (row_bel HD.out.wait W3.out.1))
  have d2 := (bel_cell W3.out.1 hbl 2).trans c2
  clear B2 K2 M2 Z2 HZ
  go_wp2_with fail
  clear t2 f2 d2
  generalize w2.setCell ⟨w.heap.size, 1, none⟩ (.map (some mn)) = w3 at *
  refine HW.mono ?_
  clear HW
  rintro e w4 ⟨a4, cap4, rfl, b4, r4⟩
  have k4 := W3.out.2.1.below b4 W3.out.2.1.lt
  have t4 := k4.cell 2
  have f4 := k4.frozen 2
  simp at t4
  have hl3 : w.heap.size < w3.heap.size := W3.out.2.1.lt
  have hm3 : mn < w3.heap.size := W3.out.2.2.lt
  obtain ⟨r40, r4b⟩ := row_base r4
  have W5 : Hid (Bel w (w4.setCell ⟨w.heap.size, 2, none⟩ (.slice a4 S.wait.length cap4)) ∧ Blk (w4.setCell ⟨w.heap.size, 2, none⟩ (.slice a4 S.wait.length cap4)) w.heap.size _ 61 ∧ MapW (w4.setCell ⟨w.heap.size, 2, none⟩ (.slice a4 S.wait.length cap4)) mn n S.fin ∧ (w4.setCell ⟨w.heap.size, 2, none⟩ (.slice a4 S.wait.length cap4)).ownsRow 0 65 2 (.slice a4 S.wait.length cap4) S.wait.length (csW S.wait)) :=
    ⟨(W3.out.1.tr b4).setCell (p := ⟨w.heap.size, 2, none⟩) (by simp) _, k4.set 2 (.slice a4 S.wait.length cap4), (W3.out.2.2.same (b4.block mn hm3)).same (Below.heap_setCell _ _ _ _ (by simp; omega)),
      row_keep r40 ((Keep.refl (fun j => j ≠ w.heap.size) w4).set (p := ⟨w.heap.size, 2, none⟩) (by simp) _) (fun g hg e => by have := r4b g hg; omega)⟩
  have R4 : Hid (∀ g, (Value.slice a4 S.wait.length cap4).ownBlock = some g → w3.heap.size ≤ g) := r4b
  have HN := cloneN S.keep (.slice ka S.keep.length kcap) (w4.setCell ⟨w.heap.size, 2, none⟩ (.slice a4 S.wait.length cap4)) hK (readsN_of (row_bel HD.out.keep W5.out.1))
  have d6 := (bel_cell W5.out.1 hbl 6).trans c6
  clear W3 k4 r4 r40 r4b b4
  go_wp2_with fail
  clear t4 f4 d6
  generalize w4.setCell ⟨w.heap.size, 2, none⟩ (.slice a4 S.wait.length cap4) = w5 at *
  refine HN.mono ?_
  clear HN
  rintro e w6 ⟨a6, cap6, rfl, b6, r6⟩
  have k6 := W5.out.2.1.below b6 W5.out.2.1.lt
  have t6 := k6.cell 6
  have f6 := k6.frozen 6
  simp at t6
  have hl5 : w.heap.size < w5.heap.size := W5.out.2.1.lt
  have hm5 : mn < w5.heap.size := W5.out.2.2.1.lt
  obtain ⟨r60, r6b⟩ := row_base r6
  have ks := (Keep.refl (fun j => j ≠ w.heap.size) w6).set (p := ⟨w.heap.size, 6, none⟩) (by simp) (.slice a6 S.keep.length cap6)
  have HF : Hid (Dev (fun j => j < w.heap.size) (w6.setCell ⟨w.heap.size, 6, none⟩ (.slice a6 S.keep.length cap6)) w.heap.size S ∧ Bel w (w6.setCell ⟨w.heap.size, 6, none⟩ (.slice a6 S.keep.length cap6))) := by
    have hB := (W5.out.1.tr b6).setCell (p := ⟨w.heap.size, 6, none⟩) (by simp) (.slice a6 S.keep.length cap6)
    refine ⟨⟨mn, n, .slice a4 S.wait.length cap4, .slice a6 S.keep.length cap6, k6.set 6 (.slice a6 S.keep.length cap6), (W5.out.2.2.1.same (b6.block mn hm5)).same (ks.block mn (by omega)), HD.out.room,
      row_keep (row_bel W5.out.2.2.2 b6) ks (fun g hg e => by have := R4.out g hg; omega), row_keep r60 ks (fun g hg e => by have := r6b g hg; omega), by omega, by omega, fun g hg => by have := R4.out g hg; omega, fun g hg => by have := r6b g hg; omega, fun j hj => Nat.lt_of_lt_of_le hj hB.size⟩, hB⟩
  clear W5 k6 r6 r60 r6b b6 ks
  go_wp2_with fail
  go_ret
  exact ⟨_, rfl, HF.out⟩
end Go.Proofs.Ytoelaemneoabfaa
