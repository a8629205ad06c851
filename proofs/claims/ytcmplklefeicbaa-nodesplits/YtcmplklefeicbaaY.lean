/-
  The law NodeTurned, walked.
-/
import Derived.Test.YtcmplklefeicbaaX
import Derived.Deep.MidRow
namespace Go.Proofs.Ytcmplklefeicbaa
open Go.RowKit
set_option maxRecDepth 100000

theorem cut10 (t : List UInt8) : (M.bs t).extract 0 (min (t.length : Int) 10).toNat = M.bs (t.take 10) := by
  rw [M.extract_bs, M.bs_data, List.drop_zero]
  congr 1
  by_cases h : t.length ≤ 10
  · rw [List.take_of_length_le (by omega), List.take_of_length_le h]
  · congr 1; omega
/-- Both pages of the law. -/
structure TB (w wr : World) (B : Nat) (p : M.Pg) (x : Value) (q : M.Pg) (y : Value) : Prop where
  b0 : Blk wr B #[.int .i64 p.lsn, .int .i64 p.kind, .int .i64 p.level, .int .i64 p.right, .string (M.bs p.high), x] 30
  b1 : Blk wr (B + 1) #[.int .i64 q.lsn, .int .i64 q.kind, .int .i64 q.level, .int .i64 q.right, .string (M.bs q.high), y] 30
  ox : wr.ownsRow (B + 1 + 1) 40 3 x p.es.length (csE p.es)
  oy : wr.ownsRow (B + 1 + 1) 40 3 y q.es.length (csE q.es)
  below : Bel w wr
  base : w.heap.size ≤ B
theorem TB.bel {w wr wr' : World} {B : Nat} {p q : M.Pg} {x y : Value} (h : TB w wr B p x q y) (k : Bel wr wr') : TB w wr' B p x q y :=
  ⟨h.b0.below k h.b0.lt, h.b1.below k h.b1.lt, own_bel h.ox k, own_bel h.oy k, h.below.tr k, h.base⟩
theorem TB.other {w W : World} {B B' : Nat} {p q : M.Pg} {x y : Value} (h : TB w W B p x q y) (hB : B + 1 < B') (h1 : some B' ≠ x.ownBlock) (h2 : some B' ≠ y.ownBlock) (j : Nat) (v : Value) : TB w (W.setCell ⟨B', j, none⟩ v) B p x q y :=
  ⟨blk_other h.b0 (by omega) _ _, blk_other h.b1 (by omega) _ _, ownsRow_setCell_other (a := ⟨B', j, none⟩) h.ox (fun e => h1 e.symm) v, ownsRow_setCell_other (a := ⟨B', j, none⟩) h.oy (fun e => h2 e.symm) v, Below.setCell h.below (show w.heap.size ≤ B' by have := h.base; omega) v, h.base⟩
theorem TB.put0 {w W : World} {B base : Nat} {p q r : M.Pg} {x y : Value} {a : Option Addr} {c : Nat} (h : TB w W B p x q y) (o : W.ownsRow base 40 3 (.slice a r.es.length c) r.es.length (csE r.es)) (hb : B + 1 + 1 ≤ base) : TB w ((((((W.setCell ⟨B, 0, none⟩ (.int .i64 r.lsn)).setCell ⟨B, 1, none⟩ (.int .i64 r.kind)).setCell ⟨B, 2, none⟩ (.int .i64 r.level)).setCell ⟨B, 3, none⟩ (.int .i64 r.right)).setCell ⟨B, 4, none⟩ (.string (M.bs r.high))).setCell ⟨B, 5, none⟩ (.slice a r.es.length c)) B r (.slice a r.es.length c) q y :=
  ⟨set6 h.b0 (.int .i64 r.lsn) (.int .i64 r.kind) (.int .i64 r.level) (.int .i64 r.right) (.string (M.bs r.high)) (.slice a r.es.length c), other6 h.b1 (by omega) (.int .i64 r.lsn) (.int .i64 r.kind) (.int .i64 r.level) (.int .i64 r.right) (.string (M.bs r.high)) (.slice a r.es.length c), own_base (ownc6 o (row_ne o h.b0 (by decide)) (.int .i64 r.lsn) (.int .i64 r.kind) (.int .i64 r.level) (.int .i64 r.right) (.string (M.bs r.high)) (.slice a r.es.length c)) hb, ownc6 h.oy (row_ne h.oy h.b0 (by decide)) (.int .i64 r.lsn) (.int .i64 r.kind) (.int .i64 r.level) (.int .i64 r.right) (.string (M.bs r.high)) (.slice a r.es.length c), bel6 h.below h.base (.int .i64 r.lsn) (.int .i64 r.kind) (.int .i64 r.level) (.int .i64 r.right) (.string (M.bs r.high)) (.slice a r.es.length c), h.base⟩
theorem TB.put1 {w W : World} {B base : Nat} {p q r : M.Pg} {x y : Value} {a : Option Addr} {c : Nat} (h : TB w W B p x q y) (o : W.ownsRow base 40 3 (.slice a r.es.length c) r.es.length (csE r.es)) (hb : B + 1 + 1 ≤ base) : TB w ((((((W.setCell ⟨B + 1, 0, none⟩ (.int .i64 r.lsn)).setCell ⟨B + 1, 1, none⟩ (.int .i64 r.kind)).setCell ⟨B + 1, 2, none⟩ (.int .i64 r.level)).setCell ⟨B + 1, 3, none⟩ (.int .i64 r.right)).setCell ⟨B + 1, 4, none⟩ (.string (M.bs r.high))).setCell ⟨B + 1, 5, none⟩ (.slice a r.es.length c)) B p x r (.slice a r.es.length c) :=
  ⟨other6 h.b0 (by omega) (.int .i64 r.lsn) (.int .i64 r.kind) (.int .i64 r.level) (.int .i64 r.right) (.string (M.bs r.high)) (.slice a r.es.length c), set6 h.b1 (.int .i64 r.lsn) (.int .i64 r.kind) (.int .i64 r.level) (.int .i64 r.right) (.string (M.bs r.high)) (.slice a r.es.length c), ownc6 h.ox (row_ne h.ox h.b1 (by decide)) (.int .i64 r.lsn) (.int .i64 r.kind) (.int .i64 r.level) (.int .i64 r.right) (.string (M.bs r.high)) (.slice a r.es.length c), own_base (ownc6 o (row_ne o h.b1 (by decide)) (.int .i64 r.lsn) (.int .i64 r.kind) (.int .i64 r.level) (.int .i64 r.right) (.string (M.bs r.high)) (.slice a r.es.length c)) hb, bel6 h.below (by have := h.base; omega) (.int .i64 r.lsn) (.int .i64 r.kind) (.int .i64 r.level) (.int .i64 r.right) (.string (M.bs r.high)) (.slice a r.es.length c), h.base⟩
theorem TB.start (w w1 : World) (k : Bel w w1) : TB w ((w1.alloc (.cells #[.int .i64 0, .int .i64 3, .int .i64 0, .int .i64 0, .string ⟨#[]⟩, .slice none 0 0] 30)).alloc (.cells #[.int .i64 0, .int .i64 3, .int .i64 0, .int .i64 0, .string ⟨#[]⟩, .slice none 0 0] 30)) w1.heap.size ⟨0, 3, 0, 0, [], []⟩ (.slice none 0 0) ⟨0, 3, 0, 0, [], []⟩ (.slice none 0 0) := by
  obtain ⟨h1, h2⟩ := heap_two w1 (.cells #[.int .i64 0, .int .i64 3, .int .i64 0, .int .i64 0, .string ⟨#[]⟩, .slice none 0 0] 30) (.cells #[.int .i64 0, .int .i64 3, .int .i64 0, .int .i64 0, .string ⟨#[]⟩, .slice none 0 0] 30)
  exact ⟨h1, h2, World.ownsRow_nil _ _ _ _, World.ownsRow_nil _ _ _ _, Bel.al (Bel.al k _) _, k.size⟩
set_option maxHeartbeats 40000000 in
theorem turned_any (L : List M.En) (ar : Option Addr) (cap : Nat) (w : World) (hv : Vals w (.slice ar L.length cap) L) (hL : L.length ≤ maxLen) (hk : ∀ e ∈ L, e.1.length ≤ maxLen) :
    Calls Try.prog 6 #[.slice ar L.length cap] w fun e w' => e = .returned (.bool true) ∧ Bel w w' := by
  unfold maxLen at hL
  obtain ⟨n, hn, hn1, hn2⟩ : ∃ n : Nat, min (L.length : Int) 20 = (n : Int) ∧ n ≤ L.length ∧ n ≤ 20 := ⟨min L.length 20, by omega, by omega, by omega⟩
  have HV := hid hv
  have HK := hid hk
  clear hv hk
  go_enter Try.func6, Try.ntmps6
  go_wp2_with (go_at_call 8; refine (speaks_any _).mono ?_; rintro e w1 ⟨rfl, hb1⟩; have T0 := hid (TB.start w w1 hb1); clear hb1)
  generalize w1.heap.size = B at *
  go_loopw [6] (fun iv wr => ∃ (i : Nat) (p q : M.Pg) (a : Option Addr) (c : Nat) (a' : Option Addr) (c' : Nat), i ≤ n ∧ iv = .int .i64 i ∧ Hid (TI p ((L.take i).map (fun e => e.1.take 10)).reverse) ∧ Hid (TI q (((L.take n).drop (n - i)).map (fun e => e.1.take 10))) ∧ Hid (TB w wr B p (.slice a p.es.length c) q (.slice a' q.es.length c'))) (fun iv _ => n - (intOf iv).toNat)
  case atStart => exact ⟨0, _, _, none, 0, none, 0, by omega, rfl, by simpa using hid ti_new, by rw [List.drop_eq_nil_of_le (by simp; omega)]; exact hid ti_new, T0⟩
  case round =>
    obtain ⟨i, p, q, a, c, a', c', hi, rfl, HP, HQ, HT⟩ := hrel
    by_cases hlt : i < n
    · have hin : (i : Int) < (n : Int) := by omega
      obtain ⟨b, off, har, hr⟩ : ∃ b off, ar = some ⟨b, off, none⟩ ∧ Row3 w b off L := by
        obtain ⟨a0, c0, e, h⟩ := HV.out
        cases e
        exact h.resolve_left (fun h => by rw [h] at hn1; simp at hn1; omega)
      subst har
      have hb : b < w.heap.size := hr.lt (by omega)
      have HROW : Hid (∀ W, Bel w W → Row3 W b off L) := fun W hW => hr.below hW hb
      clear hr
      go_wp2_with fail
      have hil : i < L.length := by omega
      obtain ⟨j, hj⟩ : ∃ j, j = n - 1 - i := ⟨_, rfl⟩
      have hjl : j < L.length := by omega
      have hji : (n : Int) - 1 - (i : Int) = (j : Int) := by omega
      have hii : (i : Int) < (L.length : Int) := by omega
      have hjj2 : (j : Int) < (L.length : Int) := by omega
      have hn0 : 1 ≤ n := by omega
      have hw1 : IntKind.i64.wrap ((n : Int) - 1) = (n : Int) - 1 := by rw [IntKind.wrap_i64]; omega
      have hw2 : IntKind.i64.wrap (j : Int) = (j : Int) := by rw [IntKind.wrap_i64]; omega
      have HJJ := hid hj
      clear hj
      refine wp_last fun KL hKL => ?_
      have HL := hid hKL
      clear hKL
      refine region_until (S := fun W : World => Row3 W b off L) (m := 14) (by kernel_rfl) ?_
      have hS := HROW.out wr.drew (HT.out.below.tr (Bel.dr (Below.refl _ _)))
      have T5 := hid (HT.out.bel (Bel.dr (Below.refl _ _)))
      clear HT
      generalize wr.drew = w5 at *
      refine take_next (i := 0) (.slice (some ⟨b, off, none⟩) L.length cap) [2, 3, 13, 14] (by kernel_rfl) (by kernel_rfl) rfl (by kernel_rfl) (by kernel_rfl) (by kernel_rfl) (by kernel_rfl) (fun _ _ _ h => absurd h.1 (by simp)) (Or.inl ⟨by rfl, fun w' hSw => by go_simp⟩) hS ?_
      try simp only [Act.put]
      refine take_next (i := 1) (.int .i64 (i : Nat)) [2, 3, 13, 14] (by kernel_rfl) (by kernel_rfl) rfl (by kernel_rfl) (by kernel_rfl) (by kernel_rfl) (by kernel_rfl) (fun _ _ _ h => absurd h.1 (by simp)) (Or.inl ⟨by rfl, fun w' hSw => by go_simp⟩) hS ?_
      try simp only [Act.put]
      refine take_next (i := 2) (.pointer (some ⟨b, off + i * 3, none⟩)) [3, 13, 14] (by kernel_rfl) (by kernel_rfl) rfl (by kernel_rfl) (by kernel_rfl) (by kernel_rfl) (by kernel_rfl) (fun _ _ _ h => absurd h.1 (by simp)) (Or.inl ⟨by rfl, fun w' hSw => by go_simp⟩) hS ?_
      try simp only [Act.put]
      refine take_next (i := 3) (.agg #[.string (M.bs (L[i]'hil).1), .string (M.bs (L[i]'hil).2.1), .bool (L[i]'hil).2.2]) [13, 14] (by kernel_rfl) (by kernel_rfl) rfl (by kernel_rfl) (by kernel_rfl) (by kernel_rfl) (by kernel_rfl) (fun _ _ _ h => absurd h.1 (by simp)) (Or.inl ⟨by rfl, fun w' hSw => by obtain ⟨s0, s1, s2⟩ := hSw i hil; go_simp⟩) hS ?_
      try simp only [Act.put]
      refine take_next (i := 4) (.slice (some ⟨b, off, none⟩) L.length cap) [9, 10, 14] (by kernel_rfl) (by kernel_rfl) rfl (by kernel_rfl) (by kernel_rfl) (by kernel_rfl) (by kernel_rfl) (fun _ _ _ h => absurd h.1 (by simp)) (Or.inl ⟨by rfl, fun w' hSw => by go_simp⟩) hS ?_
      try simp only [Act.put]
      refine take_next (i := 5) (.int .i64 (n : Nat)) [6, 8, 9, 10, 14] (by kernel_rfl) (by kernel_rfl) rfl (by kernel_rfl) (by kernel_rfl) (by kernel_rfl) (by kernel_rfl) (fun _ _ _ h => absurd h.1 (by simp)) (Or.inl ⟨by rfl, fun w' hSw => by go_simp⟩) hS ?_
      try simp only [Act.put]
      refine take_next (i := 6) (.int .i64 ((n : Int) - 1)) [8, 9, 10, 14] (by kernel_rfl) (by kernel_rfl) rfl (by kernel_rfl) (by kernel_rfl) (by kernel_rfl) (by kernel_rfl) (fun _ _ _ h => absurd h.1 (by simp)) (Or.inl ⟨by rfl, fun w' hSw => by go_simp⟩) hS ?_
      try simp only [Act.put]
      refine take_next (i := 7) (.int .i64 (i : Nat)) [8, 9, 10, 14] (by kernel_rfl) (by kernel_rfl) rfl (by kernel_rfl) (by kernel_rfl) (by kernel_rfl) (by kernel_rfl) (fun _ _ _ h => absurd h.1 (by simp)) (Or.inl ⟨by rfl, fun w' hSw => by go_simp⟩) hS ?_
      try simp only [Act.put]
      refine take_next (i := 8) (.int .i64 (j : Nat)) [9, 10, 14] (by kernel_rfl) (by kernel_rfl) rfl (by kernel_rfl) (by kernel_rfl) (by kernel_rfl) (by kernel_rfl) (fun _ _ _ h => absurd h.1 (by simp)) (Or.inl ⟨by rfl, fun w' hSw => by go_simp⟩) hS ?_
      try simp only [Act.put]
      refine take_next (i := 9) (.pointer (some ⟨b, off + j * 3, none⟩)) [10, 14] (by kernel_rfl) (by kernel_rfl) rfl (by kernel_rfl) (by kernel_rfl) (by kernel_rfl) (by kernel_rfl) (fun _ _ _ h => absurd h.1 (by simp)) (Or.inl ⟨by rfl, fun w' hSw => by go_simp⟩) hS ?_
      try simp only [Act.put]
      refine take_next (i := 10) (.agg #[.string (M.bs (L[j]'hjl).1), .string (M.bs (L[j]'hjl).2.1), .bool (L[j]'hjl).2.2]) [14] (by kernel_rfl) (by kernel_rfl) rfl (by kernel_rfl) (by kernel_rfl) (by kernel_rfl) (by kernel_rfl) (fun _ _ _ h => absurd h.1 (by simp)) (Or.inl ⟨by rfl, fun w' hSw => by obtain ⟨s0, s1, s2⟩ := hSw j hjl; go_simp⟩) hS ?_
      try simp only [Act.put]
      refine until_ready (rs := [11, 12]) (by kernel_rfl) (by simp) ?_
      intro jj hjj
      simp only [List.mem_cons, List.not_mem_nil, or_false] at hjj
      rcases hjj with rfl | rfl
      · skip
        refine wpOp_step rfl (fun KX hKX => ?_)
        have HX := hid hKX
        clear hKX
        go_simp
        refine HX.out _ _ ⟨fun _ => HROW.out _ (T5.out.below.tr (Bel.al (Below.refl _ _) _)), ?_⟩
        clear HX
        try simp only [Act.put]
        refine until_step (j := 12) (by kernel_rfl) rfl (by kernel_rfl) (fun KX hKX => ?_)
        have HX := hid hKX
        clear hKX
        go_simp
        refine HX.out _ _ ⟨fun _ => HROW.out _ (T5.out.below.tr (Bel.al (Bel.al (Below.refl _ _) _) _)), ?_⟩
        clear HX
        try simp only [Act.put]
        refine until_step (j := 13) (by kernel_rfl) rfl (by kernel_rfl) (fun KX hKX => ?_)
        have HX := hid hKX
        clear hKX
        go_simp
        refine HX.out _ _ ⟨fun _ => HROW.out _ (T5.out.below.tr (Bel.al (Bel.al (Below.refl _ _) _) _)), ?_⟩
        clear HX
        try simp only [Act.put]
        refine until_step (j := 14) (by kernel_rfl) rfl (by kernel_rfl) (fun KX hKX => ?_)
        have HX := hid hKX
        clear hKX
        go_simp
        refine HX.out _ _ ⟨(fun h => by cases (Eq.trans (Eq.symm (show _ = true by kernel_rfl)) h)), ?_⟩
        clear HX hS
        refine until_done (by kernel_rfl) ⟨rfl, ?_⟩ _
        refine HL.out _ _ ?_
        clear HL
        obtain ⟨D1, D2⟩ := heap_two w5 (.cells #[.string (M.bs (L[i]'hil).1), .string (M.bs (L[i]'hil).2.1), .bool (L[i]'hil).2.2] 26) (.cells #[.string (M.bs (L[j]'hjl).1), .string (M.bs (L[j]'hjl).2.1), .bool (L[j]'hjl).2.2] 26)
        have T6 := hid (T5.out.bel (Bel.al (Bel.al (Below.refl _ _) (.cells #[.string (M.bs (L[i]'hil).1), .string (M.bs (L[i]'hil).2.1), .bool (L[i]'hil).2.2] 26)) (.cells #[.string (M.bs (L[j]'hjl).1), .string (M.bs (L[j]'hjl).2.1), .bool (L[j]'hjl).2.2] 26)))
        clear T5
        generalize hw6 : (w5.alloc (.cells #[.string (M.bs (L[i]'hil).1), .string (M.bs (L[i]'hil).2.1), .bool (L[i]'hil).2.2] 26)).alloc (.cells #[.string (M.bs (L[j]'hjl).1), .string (M.bs (L[j]'hjl).2.1), .bool (L[j]'hjl).2.2] 26) = w6 at *
        clear hw6
        obtain ⟨ga, hga⟩ : ∃ ga, ga = w5.heap.size := ⟨_, rfl⟩
        obtain ⟨gb, hgb⟩ : ∃ gb, gb = w5.heap.size + 1 := ⟨_, rfl⟩
        rw [← hgb] at D2 ⊢
        rw [← hga] at D1 ⊢
        clear hga hgb
        have D7 : Hid (Blk w6 ga #[.string (M.bs (L[i]'hil).1), .string (M.bs (L[i]'hil).2.1), .bool (L[i]'hil).2.2] 26) := D1
        have D8 : Hid (Blk w6 gb #[.string (M.bs (L[j]'hjl).1), .string (M.bs (L[j]'hjl).2.1), .bool (L[j]'hjl).2.2] 26) := D2
        clear D1 D2
        have HKI : Hid ((L[i]'hil).1.length ≤ 9223372036854775807) := by have := HK.out _ (List.getElem_mem hil); unfold maxLen at this; show _ ≤ _; omega
        have HKJ : Hid ((L[j]'hjl).1.length ≤ 9223372036854775807) := by have := HK.out _ (List.getElem_mem hjl); unfold maxLen at this; show _ ≤ _; omega
        have HTK : Hid (((L.take (i + 1)).map (fun e => e.1.take 10)).reverse = (L[i]'hil).1.take 10 :: ((L.take i).map (fun e => e.1.take 10)).reverse) := by
          show _ = _
          rw [List.take_succ_eq_append_getElem hil, List.map_append, List.reverse_append]; rfl
        have HDR : Hid (((L.take n).drop (n - (i + 1))).map (fun e => e.1.take 10) = (L[j]'hjl).1.take 10 :: ((L.take n).drop (n - i)).map (fun e => e.1.take 10)) := by
          show _ = _
          have e0 := HJJ.out
          have e1 : n - (i + 1) = j := by omega
          have e2 : n - i = j + 1 := by omega
          have hjt : j < (L.take n).length := by rw [List.length_take]; omega
          rw [e1, e2, List.drop_eq_getElem_cons hjt]
          simp [List.getElem_take]
        generalize (L[i]'hil).2.1 = vi at *
        generalize (L[i]'hil).2.2 = mi at *
        generalize (L[i]'hil).1 = ki at *
        generalize (L[j]'hjl).2.1 = vj at *
        generalize (L[j]'hjl).2.2 = mj at *
        generalize (L[j]'hjl).1 = kj at *
        obtain ⟨s0, s1, s2⟩ : w6.cell? ⟨ga, 0, none⟩ = some (.string (M.bs ki)) ∧ w6.cell? ⟨ga, 1, none⟩ = some (.string (M.bs vi)) ∧ w6.cell? ⟨ga, 2, none⟩ = some (.bool mi) := ⟨by rw [D7.out.cell]; rfl, by rw [D7.out.cell]; rfl, by rw [D7.out.cell]; rfl⟩
        obtain ⟨u0, u1, u2⟩ : w6.cell? ⟨gb, 0, none⟩ = some (.string (M.bs kj)) ∧ w6.cell? ⟨gb, 1, none⟩ = some (.string (M.bs vj)) ∧ w6.cell? ⟨gb, 2, none⟩ = some (.bool mj) := ⟨by rw [D8.out.cell]; rfl, by rw [D8.out.cell]; rfl, by rw [D8.out.cell]; rfl⟩
        have hzi : (M.bs ki).size = ki.length := M.bs_size _
        have hzj : (M.bs kj).size = kj.length := M.bs_size _
        have cei := cut10 ki
        have cej := cut10 kj
        obtain ⟨ni, hni, hni'⟩ : ∃ ni : Nat, min (ki.length : Int) 10 = (ni : Int) ∧ ni ≤ ki.length := ⟨min ki.length 10, by omega, by omega⟩
        obtain ⟨nj, hnj, hnj'⟩ : ∃ nj : Nat, min (kj.length : Int) 10 = (nj : Int) ∧ nj ≤ kj.length := ⟨min kj.length 10, by omega, by omega⟩
        rw [hni, Int.toNat_natCast] at cei
        rw [hnj, Int.toNat_natCast] at cej
        have hli := HKI.out
        have hlj := HKJ.out
        have HZI : Hid ((ki.take 10).length ≤ 10) := by show _ ≤ _; rw [List.length_take]; omega
        have HZJ : Hid ((kj.take 10).length ≤ 10) := by show _ ≤ _; rw [List.length_take]; omega
        generalize ki.take 10 = xi at *
        generalize kj.take 10 = xj at *
        have s9 := (bel_cell (Bel.al (Below.refl w6.heap.size w6) (.cells #[.string (M.bs xi), .string ⟨#[]⟩, .bool false] 40)) D8.out.lt 0).trans u0
        go_wp2_with fail
        obtain ⟨X1, X2⟩ := heap_two w6 (.cells #[.string (M.bs xi), .string ⟨#[]⟩, .bool false] 40) (.cells #[.string (M.bs xj), .string ⟨#[]⟩, .bool false] 40)
        have T10 := hid (T6.out.bel (Bel.al (Bel.al (Below.refl _ _) (.cells #[.string (M.bs xi), .string ⟨#[]⟩, .bool false] 40)) (.cells #[.string (M.bs xj), .string ⟨#[]⟩, .bool false] 40)))
        have Z6 := hid T6.out.b1.lt
        clear s0 s1 s2 u0 u1 u2 s9 D7 D8 hzi hzj cei cej hni hnj hni' hnj' hli hlj
        obtain ⟨g9, hg9⟩ : ∃ g, g = w6.heap.size := ⟨_, rfl⟩
        obtain ⟨g10, hg10⟩ : ∃ g, g = w6.heap.size + 1 := ⟨_, rfl⟩
        rw [← hg10] at X2 ⊢
        rw [← hg9] at X1 Z6 ⊢
        have hgg : g9 ≠ g10 := by omega
        have N9 : Hid (some g9 ≠ (Value.slice a p.es.length c).ownBlock ∧ some g9 ≠ (Value.slice a' q.es.length c').ownBlock) := ⟨fun e => by have := (T6.out.ox.lt g9 e.symm).2; omega, fun e => by have := (T6.out.oy.lt g9 e.symm).2; omega⟩
        have N10 : Hid (some g10 ≠ (Value.slice a p.es.length c).ownBlock ∧ some g10 ≠ (Value.slice a' q.es.length c').ownBlock) := ⟨fun e => by have := (T6.out.ox.lt g10 e.symm).2; omega, fun e => by have := (T6.out.oy.lt g10 e.symm).2; omega⟩
        clear T6
        have HG10 : Hid (B + 1 < g10) := by show _ < _; have := Z6.out; omega
        generalize hw10 : (w6.alloc (.cells #[.string (M.bs xi), .string ⟨#[]⟩, .bool false] 40)).alloc (.cells #[.string (M.bs xj), .string ⟨#[]⟩, .bool false] 40) = w10 at *
        clear hw10 hg9 hg10
        refine wp_last fun KL hKL => ?_
        have HL := hid hKL
        clear hKL
        refine region_until (S := fun W : World => W.cell? ⟨g9, 0, none⟩ = some (.string (M.bs xi)) ∧ W.cell? ⟨g10, 0, none⟩ = some (.string (M.bs xj))) (m := 7) (by kernel_rfl) ?_
        have Y1 : Hid (Blk w10.drew g9 #[.string (M.bs xi), .string ⟨#[]⟩, .bool false] 40) := X1
        have Y2 : Hid (Blk w10.drew g10 #[.string (M.bs xj), .string ⟨#[]⟩, .bool false] 40) := X2
        have T11 := hid (T10.out.bel (Bel.dr (Below.refl _ _)))
        clear X1 X2 T10
        generalize w10.drew = w11 at *
        have hS : w11.cell? ⟨g9, 0, none⟩ = some (.string (M.bs xi)) ∧ w11.cell? ⟨g10, 0, none⟩ = some (.string (M.bs xj)) := ⟨by rw [Y1.out.cell]; rfl, by rw [Y2.out.cell]; rfl⟩
        refine take_next (i := 0) (.pointer (some ⟨g9, 0, none⟩)) [1, 5, 7] (by kernel_rfl) (by kernel_rfl) rfl (by kernel_rfl) (by kernel_rfl) (by kernel_rfl) (by kernel_rfl) (fun _ _ _ h => absurd h.1 (by simp)) (Or.inl ⟨by rfl, fun w' hSw => by go_simp⟩) hS ?_
        try simp only [Act.put]
        refine take_next (i := 1) (.string (M.bs xi)) [5, 7] (by kernel_rfl) (by kernel_rfl) rfl (by kernel_rfl) (by kernel_rfl) (by kernel_rfl) (by kernel_rfl) (fun _ _ _ h => absurd h.1 (by simp)) (Or.inl ⟨by rfl, fun w' hSw => by obtain ⟨s0, s1⟩ := hSw; go_simp⟩) hS ?_
        try simp only [Act.put]
        refine take_next (i := 2) (.pointer (some ⟨g10, 0, none⟩)) [3, 7] (by kernel_rfl) (by kernel_rfl) rfl (by kernel_rfl) (by kernel_rfl) (by kernel_rfl) (by kernel_rfl) (fun _ _ _ h => absurd h.1 (by simp)) (Or.inl ⟨by rfl, fun w' hSw => by go_simp⟩) hS ?_
        try simp only [Act.put]
        refine take_next (i := 3) (.string (M.bs xj)) [7] (by kernel_rfl) (by kernel_rfl) rfl (by kernel_rfl) (by kernel_rfl) (by kernel_rfl) (by kernel_rfl) (fun _ _ _ h => absurd h.1 (by simp)) (Or.inl ⟨by rfl, fun w' hSw => by obtain ⟨s0, s1⟩ := hSw; go_simp⟩) hS ?_
        try simp only [Act.put]
        have y9 : w11.cell? ⟨g9, 1, none⟩ = some (.string ⟨#[]⟩) := by rw [Y1.out.cell]; rfl
        have z9 := Y1.out.frozen 1
        refine until_step (j := 4) (by kernel_rfl) rfl (by kernel_rfl) (fun KX hKX => ?_)
        have HX := hid hKX
        clear hKX
        go_simp
        refine HX.out _ _ ⟨fun _ => hS, ?_⟩
        clear HX
        try simp only [Act.put]
        refine until_step (j := 5) (by kernel_rfl) rfl (by kernel_rfl) (fun KX hKX => ?_)
        have HX := hid hKX
        clear hKX
        go_simp
        have V1 : Hid (Blk (w11.setCell ⟨g9, 1, none⟩ (.string (M.bs xi))) g9 #[.string (M.bs xi), .string (M.bs xi), .bool false] 40) := hid (by
          have z := Y1.out.set 1 (.string (M.bs xi))
          simpa using z)
        have V2 : Hid (Blk (w11.setCell ⟨g9, 1, none⟩ (.string (M.bs xi))) g10 #[.string (M.bs xj), .string ⟨#[]⟩, .bool false] 40) := blk_other Y2.out (fun e => hgg e.symm) _ _
        have VT := hid (T11.out.other (B' := g9) (by have := Z6.out; omega) N9.out.1 N9.out.2 1 (.string (M.bs xi)))
        have hS5 : (w11.setCell ⟨g9, 1, none⟩ (.string (M.bs xi))).cell? ⟨g9, 0, none⟩ = some (.string (M.bs xi)) ∧ (w11.setCell ⟨g9, 1, none⟩ (.string (M.bs xi))).cell? ⟨g10, 0, none⟩ = some (.string (M.bs xj)) := ⟨by rw [V1.out.cell]; rfl, by rw [V2.out.cell]; rfl⟩
        refine HX.out _ _ ⟨fun _ => hS5, ?_⟩
        clear HX Y1 Y2 T11 y9 z9 hS
        generalize w11.setCell ⟨g9, 1, none⟩ (.string (M.bs xi)) = w11b at *
        try simp only [Act.put]
        have y9 : w11b.cell? ⟨g10, 1, none⟩ = some (.string ⟨#[]⟩) := by rw [V2.out.cell]; rfl
        have z9 := V2.out.frozen 1
        refine until_step (j := 6) (by kernel_rfl) rfl (by kernel_rfl) (fun KX hKX => ?_)
        have HX := hid hKX
        clear hKX
        go_simp
        refine HX.out _ _ ⟨fun _ => hS5, ?_⟩
        clear HX
        try simp only [Act.put]
        refine until_step (j := 7) (by kernel_rfl) rfl (by kernel_rfl) (fun KX hKX => ?_)
        have HX := hid hKX
        clear hKX
        go_simp
        have U1 : Hid (Blk (w11b.setCell ⟨g10, 1, none⟩ (.string (M.bs xj))) g9 #[.string (M.bs xi), .string (M.bs xi), .bool false] 40) := blk_other V1.out hgg _ _
        have U2 : Hid (Blk (w11b.setCell ⟨g10, 1, none⟩ (.string (M.bs xj))) g10 #[.string (M.bs xj), .string (M.bs xj), .bool false] 40) := hid (by
          have z := V2.out.set 1 (.string (M.bs xj))
          simpa using z)
        have T12 := hid (VT.out.other (B' := g10) HG10.out N10.out.1 N10.out.2 1 (.string (M.bs xj)))
        refine HX.out _ _ ⟨(fun h => by cases (Eq.trans (Eq.symm (show _ = true by kernel_rfl)) h)), ?_⟩
        clear HX V1 V2 VT y9 z9 hS5
        generalize w11b.setCell ⟨g10, 1, none⟩ (.string (M.bs xj)) = w12 at *
        refine until_done (by kernel_rfl) ⟨rfl, ?_⟩ _
        refine HL.out _ _ ?_
        clear HL
        have HINSa := hid (insert_any p (.slice a p.es.length c) (xi, xi, false) w12 (HP.out.sm (by simp; omega)) (own_vs T12.out.ox) HP.out.up (by have := HZI.out; show xi.length ≤ _; omega) (by have := HZI.out; show xi.length ≤ _; omega))
        have hti := HP.out.ins (by simp; omega) xi HZI.out
        obtain ⟨ra, hr'⟩ : ∃ r, r = M.insP p (xi, xi, false) := ⟨_, rfl⟩
        rw [← hr'] at HINSa hti
        clear hr'
        obtain ⟨t0, t1, t2, t3, t4, t5⟩ := blk_cells T12.out.b0
        obtain ⟨k0, k1, k2⟩ : w12.cell? ⟨g9, 0, none⟩ = some (.string (M.bs xi)) ∧ w12.cell? ⟨g9, 1, none⟩ = some (.string (M.bs xi)) ∧ w12.cell? ⟨g9, 2, none⟩ = some (.bool false) := ⟨by rw [U1.out.cell]; rfl, by rw [U1.out.cell]; rfl, by rw [U1.out.cell]; rfl⟩
        rcases hti with ⟨hE, hTI⟩ | ⟨hE, hTI⟩
        · skip
          rw [hE] at HINSa
          have HPN := hid hTI
          clear hE hTI
          go_wp2_with fail
          refine HINSa.out.mono ?_
          rintro e w13 ⟨x2, rfl, o2, k13⟩
          obtain ⟨ax, cx, rfl⟩ := row_form o2
          have T13 := hid ((T12.out.bel k13).bel (Bel.al (Below.refl _ _) (.cells #[.int .i64 ra.lsn, .int .i64 ra.kind, .int .i64 ra.level, .int .i64 ra.right, .string (M.bs ra.high), .slice ax ra.es.length cx] 30)))
          have O2 := hid (own_bel o2 (Bel.al (Below.refl _ _) (.cells #[.int .i64 ra.lsn, .int .i64 ra.kind, .int .i64 ra.level, .int .i64 ra.right, .string (M.bs ra.high), .slice ax ra.es.length cx] 30)))
          have Z2 := hid T12.out.b1.lt
          have U13 := hid ((U2.out.below k13 U2.out.lt).below (Bel.al (Below.refl _ _) (.cells #[.int .i64 ra.lsn, .int .i64 ra.kind, .int .i64 ra.level, .int .i64 ra.right, .string (M.bs ra.high), .slice ax ra.es.length cx] 30)) (U2.out.below k13 U2.out.lt).lt)
          clear o2 k13 t0 t1 t2 t3 t4 t5 k0 k1 k2
          obtain ⟨v0, v1, v2, v3, v4, v5⟩ := blk_cells T13.out.b1
          obtain ⟨k0, k1, k2⟩ : (w13.alloc (.cells #[.int .i64 ra.lsn, .int .i64 ra.kind, .int .i64 ra.level, .int .i64 ra.right, .string (M.bs ra.high), .slice ax ra.es.length cx] 30)).cell? ⟨g10, 0, none⟩ = some (.string (M.bs xj)) ∧ (w13.alloc (.cells #[.int .i64 ra.lsn, .int .i64 ra.kind, .int .i64 ra.level, .int .i64 ra.right, .string (M.bs ra.high), .slice ax ra.es.length cx] 30)).cell? ⟨g10, 1, none⟩ = some (.string (M.bs xj)) ∧ (w13.alloc (.cells #[.int .i64 ra.lsn, .int .i64 ra.kind, .int .i64 ra.level, .int .i64 ra.right, .string (M.bs ra.high), .slice ax ra.es.length cx] 30)).cell? ⟨g10, 2, none⟩ = some (.bool false) := ⟨by rw [U13.out.cell]; rfl, by rw [U13.out.cell]; rfl, by rw [U13.out.cell]; rfl⟩
          clear O2
          go_wp2_with fail
          generalize w13.alloc (.cells #[.int .i64 ra.lsn, .int .i64 ra.kind, .int .i64 ra.level, .int .i64 ra.right, .string (M.bs ra.high), .slice ax ra.es.length cx] 30) = w14 at *
          have HINSb := hid (insert_any q (.slice a' q.es.length c') (xj, xj, false) w14 (HQ.out.sm (by simp; omega)) (own_vs T13.out.oy) HQ.out.up (by have := HZJ.out; show xj.length ≤ _; omega) (by have := HZJ.out; show xj.length ≤ _; omega))
          have hti := HQ.out.ins (by simp; omega) xj HZJ.out
          obtain ⟨rb, hr'⟩ : ∃ r, r = M.insP q (xj, xj, false) := ⟨_, rfl⟩
          rw [← hr'] at HINSb hti
          clear hr'
          rcases hti with ⟨hE, hTI⟩ | ⟨hE, hTI⟩
          · skip
            rw [hE] at HINSb
            have HQN := hid hTI
            clear hE hTI
            refine HINSb.out.mono ?_
            rintro e w23 ⟨x2, rfl, o2, k13⟩
            obtain ⟨bx, dx, rfl⟩ := row_form o2
            have T23 := hid ((T13.out.bel k13).bel (Bel.al (Below.refl _ _) (.cells #[.int .i64 rb.lsn, .int .i64 rb.kind, .int .i64 rb.level, .int .i64 rb.right, .string (M.bs rb.high), .slice bx rb.es.length dx] 30)))
            have O2 := hid (own_bel o2 (Bel.al (Below.refl _ _) (.cells #[.int .i64 rb.lsn, .int .i64 rb.kind, .int .i64 rb.level, .int .i64 rb.right, .string (M.bs rb.high), .slice bx rb.es.length dx] 30)))
            have Z2 := hid T13.out.b1.lt
            clear o2 k13 v0 v1 v2 v3 v4 v5 k0 k1 k2
            clear O2
            go_wp2_with fail
            generalize w23.alloc (.cells #[.int .i64 rb.lsn, .int .i64 rb.kind, .int .i64 rb.level, .int .i64 rb.right, .string (M.bs rb.high), .slice bx rb.es.length dx] 30) = w24 at *
            go_roundw
            case rel => exact ⟨i + 1, p, q, a, c, a', c', by omega, by go_num, by rw [HTK.out]; exact HPN, by rw [HDR.out]; exact HQN, T23⟩
            case measure => simp [intOf]; omega
          · skip
            rw [hE] at HINSb
            have HQN := hid hTI
            clear hE hTI
            refine HINSb.out.mono ?_
            rintro e w23 ⟨x2, rfl, o2, k13⟩
            obtain ⟨bx, dx, rfl⟩ := row_form o2
            have T23 := hid ((T13.out.bel k13).bel (Bel.al (Below.refl _ _) (.cells #[.int .i64 rb.lsn, .int .i64 rb.kind, .int .i64 rb.level, .int .i64 rb.right, .string (M.bs rb.high), .slice bx rb.es.length dx] 30)))
            have O2 := hid (own_bel o2 (Bel.al (Below.refl _ _) (.cells #[.int .i64 rb.lsn, .int .i64 rb.kind, .int .i64 rb.level, .int .i64 rb.right, .string (M.bs rb.high), .slice bx rb.es.length dx] 30)))
            have Z2 := hid T13.out.b1.lt
            clear o2 k13 v0 v1 v2 v3 v4 v5 k0 k1 k2
            have hth : (w23.alloc (.cells #[.int .i64 rb.lsn, .int .i64 rb.kind, .int .i64 rb.level, .int .i64 rb.right, .string (M.bs rb.high), .slice bx rb.es.length dx] 30)).there (B + 1) 0 (#[.int .i64 rb.lsn, .int .i64 rb.kind, .int .i64 rb.level, .int .i64 rb.right, .string (M.bs rb.high), .slice bx rb.es.length dx] : Array Value).size := fun j hj => by
              rw [T23.out.b1.cell, T23.out.b1.frozen]
              refine ⟨?_, rfl⟩
              have : j < 6 := hj
              simp
              omega
            have hone : (#[.int .i64 rb.lsn, .int .i64 rb.kind, .int .i64 rb.level, .int .i64 rb.right, .string (M.bs rb.high), .slice bx rb.es.length dx] : Array Value).all (·.oneCell') = true := by simp [Value.oneCell']
            have hi6 : (Try.prog.info? 30).map (·.size) = some (#[.int .i64 rb.lsn, .int .i64 rb.kind, .int .i64 rb.level, .int .i64 rb.right, .string (M.bs rb.high), .slice bx rb.es.length dx] : Array Value).size := by rw [info30]; rfl
            go_wp2_with (refine wpList_store_mid rfl 30 (.tmp 4) (.tmp 80) rfl (B + 1) 0 #[.int .i64 rb.lsn, .int .i64 rb.kind, .int .i64 rb.level, .int .i64 rb.right, .string (M.bs rb.high), .slice bx rb.es.length dx] (by rfl) (by rfl) hth hi6 hone ?_; simp only [World.setCells, Nat.zero_add, Nat.reduceAdd]; have T24 := hid (T23.out.put1 O2.out (by have := Z2.out; omega)); clear O2 T23; clear hth; generalize (((((((w23.alloc (.cells #[.int .i64 rb.lsn, .int .i64 rb.kind, .int .i64 rb.level, .int .i64 rb.right, .string (M.bs rb.high), .slice bx rb.es.length dx] 30)).setCell ⟨B + 1, 0, none⟩ (.int .i64 rb.lsn)).setCell ⟨B + 1, 1, none⟩ (.int .i64 rb.kind)).setCell ⟨B + 1, 2, none⟩ (.int .i64 rb.level)).setCell ⟨B + 1, 3, none⟩ (.int .i64 rb.right)).setCell ⟨B + 1, 4, none⟩ (.string (M.bs rb.high))).setCell ⟨B + 1, 5, none⟩ (.slice bx rb.es.length dx)) = w24 at *; clear hone hi6; skip)
            go_roundw
            case rel => exact ⟨i + 1, p, rb, a, c, bx, dx, by omega, by go_num, by rw [HTK.out]; exact HPN, by rw [HDR.out]; exact HQN, T24⟩
            case measure => simp [intOf]; omega
        · skip
          rw [hE] at HINSa
          have HPN := hid hTI
          clear hE hTI
          go_wp2_with fail
          refine HINSa.out.mono ?_
          rintro e w13 ⟨x2, rfl, o2, k13⟩
          obtain ⟨ax, cx, rfl⟩ := row_form o2
          have T13 := hid ((T12.out.bel k13).bel (Bel.al (Below.refl _ _) (.cells #[.int .i64 ra.lsn, .int .i64 ra.kind, .int .i64 ra.level, .int .i64 ra.right, .string (M.bs ra.high), .slice ax ra.es.length cx] 30)))
          have O2 := hid (own_bel o2 (Bel.al (Below.refl _ _) (.cells #[.int .i64 ra.lsn, .int .i64 ra.kind, .int .i64 ra.level, .int .i64 ra.right, .string (M.bs ra.high), .slice ax ra.es.length cx] 30)))
          have Z2 := hid T12.out.b1.lt
          have U13 := hid ((U2.out.below k13 U2.out.lt).below (Bel.al (Below.refl _ _) (.cells #[.int .i64 ra.lsn, .int .i64 ra.kind, .int .i64 ra.level, .int .i64 ra.right, .string (M.bs ra.high), .slice ax ra.es.length cx] 30)) (U2.out.below k13 U2.out.lt).lt)
          clear o2 k13 t0 t1 t2 t3 t4 t5 k0 k1 k2
          have hth : (w13.alloc (.cells #[.int .i64 ra.lsn, .int .i64 ra.kind, .int .i64 ra.level, .int .i64 ra.right, .string (M.bs ra.high), .slice ax ra.es.length cx] 30)).there B 0 (#[.int .i64 ra.lsn, .int .i64 ra.kind, .int .i64 ra.level, .int .i64 ra.right, .string (M.bs ra.high), .slice ax ra.es.length cx] : Array Value).size := fun j hj => by
            rw [T13.out.b0.cell, T13.out.b0.frozen]
            refine ⟨?_, rfl⟩
            have : j < 6 := hj
            simp
            omega
          have hone : (#[.int .i64 ra.lsn, .int .i64 ra.kind, .int .i64 ra.level, .int .i64 ra.right, .string (M.bs ra.high), .slice ax ra.es.length cx] : Array Value).all (·.oneCell') = true := by simp [Value.oneCell']
          have hi6 : (Try.prog.info? 30).map (·.size) = some (#[.int .i64 ra.lsn, .int .i64 ra.kind, .int .i64 ra.level, .int .i64 ra.right, .string (M.bs ra.high), .slice ax ra.es.length cx] : Array Value).size := by rw [info30]; rfl
          go_wp2_with (refine wpList_store_mid rfl 30 (.tmp 3) (.tmp 69) rfl B 0 #[.int .i64 ra.lsn, .int .i64 ra.kind, .int .i64 ra.level, .int .i64 ra.right, .string (M.bs ra.high), .slice ax ra.es.length cx] (by rfl) (by rfl) hth hi6 hone ?_; simp only [World.setCells, Nat.zero_add, Nat.reduceAdd]; have T14 := hid (T13.out.put0 O2.out (by have := Z2.out; omega)); have U14 := hid (other6 U13.out (show g10 ≠ B by have := HG10.out; omega) (.int .i64 ra.lsn) (.int .i64 ra.kind) (.int .i64 ra.level) (.int .i64 ra.right) (.string (M.bs ra.high)) (.slice ax ra.es.length cx)); clear U13 O2 T13; clear hth; generalize (((((((w13.alloc (.cells #[.int .i64 ra.lsn, .int .i64 ra.kind, .int .i64 ra.level, .int .i64 ra.right, .string (M.bs ra.high), .slice ax ra.es.length cx] 30)).setCell ⟨B, 0, none⟩ (.int .i64 ra.lsn)).setCell ⟨B, 1, none⟩ (.int .i64 ra.kind)).setCell ⟨B, 2, none⟩ (.int .i64 ra.level)).setCell ⟨B, 3, none⟩ (.int .i64 ra.right)).setCell ⟨B, 4, none⟩ (.string (M.bs ra.high))).setCell ⟨B, 5, none⟩ (.slice ax ra.es.length cx)) = w14 at *; clear hone hi6; obtain ⟨v0, v1, v2, v3, v4, v5⟩ := blk_cells T14.out.b1; obtain ⟨k0, k1, k2⟩ : w14.cell? ⟨g10, 0, none⟩ = some (.string (M.bs xj)) ∧ w14.cell? ⟨g10, 1, none⟩ = some (.string (M.bs xj)) ∧ w14.cell? ⟨g10, 2, none⟩ = some (.bool false) := ⟨by rw [U14.out.cell]; rfl, by rw [U14.out.cell]; rfl, by rw [U14.out.cell]; rfl⟩)
          have HINSb := hid (insert_any q (.slice a' q.es.length c') (xj, xj, false) w14 (HQ.out.sm (by simp; omega)) (own_vs T14.out.oy) HQ.out.up (by have := HZJ.out; show xj.length ≤ _; omega) (by have := HZJ.out; show xj.length ≤ _; omega))
          have hti := HQ.out.ins (by simp; omega) xj HZJ.out
          obtain ⟨rb, hr'⟩ : ∃ r, r = M.insP q (xj, xj, false) := ⟨_, rfl⟩
          rw [← hr'] at HINSb hti
          clear hr'
          rcases hti with ⟨hE, hTI⟩ | ⟨hE, hTI⟩
          · skip
            rw [hE] at HINSb
            have HQN := hid hTI
            clear hE hTI
            refine HINSb.out.mono ?_
            rintro e w23 ⟨x2, rfl, o2, k13⟩
            obtain ⟨bx, dx, rfl⟩ := row_form o2
            have T23 := hid ((T14.out.bel k13).bel (Bel.al (Below.refl _ _) (.cells #[.int .i64 rb.lsn, .int .i64 rb.kind, .int .i64 rb.level, .int .i64 rb.right, .string (M.bs rb.high), .slice bx rb.es.length dx] 30)))
            have O2 := hid (own_bel o2 (Bel.al (Below.refl _ _) (.cells #[.int .i64 rb.lsn, .int .i64 rb.kind, .int .i64 rb.level, .int .i64 rb.right, .string (M.bs rb.high), .slice bx rb.es.length dx] 30)))
            have Z2 := hid T14.out.b1.lt
            clear o2 k13 v0 v1 v2 v3 v4 v5 k0 k1 k2
            clear O2
            go_wp2_with fail
            generalize w23.alloc (.cells #[.int .i64 rb.lsn, .int .i64 rb.kind, .int .i64 rb.level, .int .i64 rb.right, .string (M.bs rb.high), .slice bx rb.es.length dx] 30) = w24 at *
            go_roundw
            case rel => exact ⟨i + 1, ra, q, ax, cx, a', c', by omega, by go_num, by rw [HTK.out]; exact HPN, by rw [HDR.out]; exact HQN, T23⟩
            case measure => simp [intOf]; omega
          · skip
            rw [hE] at HINSb
            have HQN := hid hTI
            clear hE hTI
            refine HINSb.out.mono ?_
            rintro e w23 ⟨x2, rfl, o2, k13⟩
            obtain ⟨bx, dx, rfl⟩ := row_form o2
            have T23 := hid ((T14.out.bel k13).bel (Bel.al (Below.refl _ _) (.cells #[.int .i64 rb.lsn, .int .i64 rb.kind, .int .i64 rb.level, .int .i64 rb.right, .string (M.bs rb.high), .slice bx rb.es.length dx] 30)))
            have O2 := hid (own_bel o2 (Bel.al (Below.refl _ _) (.cells #[.int .i64 rb.lsn, .int .i64 rb.kind, .int .i64 rb.level, .int .i64 rb.right, .string (M.bs rb.high), .slice bx rb.es.length dx] 30)))
            have Z2 := hid T14.out.b1.lt
            clear o2 k13 v0 v1 v2 v3 v4 v5 k0 k1 k2
            have hth : (w23.alloc (.cells #[.int .i64 rb.lsn, .int .i64 rb.kind, .int .i64 rb.level, .int .i64 rb.right, .string (M.bs rb.high), .slice bx rb.es.length dx] 30)).there (B + 1) 0 (#[.int .i64 rb.lsn, .int .i64 rb.kind, .int .i64 rb.level, .int .i64 rb.right, .string (M.bs rb.high), .slice bx rb.es.length dx] : Array Value).size := fun j hj => by
              rw [T23.out.b1.cell, T23.out.b1.frozen]
              refine ⟨?_, rfl⟩
              have : j < 6 := hj
              simp
              omega
            have hone : (#[.int .i64 rb.lsn, .int .i64 rb.kind, .int .i64 rb.level, .int .i64 rb.right, .string (M.bs rb.high), .slice bx rb.es.length dx] : Array Value).all (·.oneCell') = true := by simp [Value.oneCell']
            have hi6 : (Try.prog.info? 30).map (·.size) = some (#[.int .i64 rb.lsn, .int .i64 rb.kind, .int .i64 rb.level, .int .i64 rb.right, .string (M.bs rb.high), .slice bx rb.es.length dx] : Array Value).size := by rw [info30]; rfl
            go_wp2_with (refine wpList_store_mid rfl 30 (.tmp 4) (.tmp 80) rfl (B + 1) 0 #[.int .i64 rb.lsn, .int .i64 rb.kind, .int .i64 rb.level, .int .i64 rb.right, .string (M.bs rb.high), .slice bx rb.es.length dx] (by rfl) (by rfl) hth hi6 hone ?_; simp only [World.setCells, Nat.zero_add, Nat.reduceAdd]; have T24 := hid (T23.out.put1 O2.out (by have := Z2.out; omega)); clear O2 T23; clear hth; generalize (((((((w23.alloc (.cells #[.int .i64 rb.lsn, .int .i64 rb.kind, .int .i64 rb.level, .int .i64 rb.right, .string (M.bs rb.high), .slice bx rb.es.length dx] 30)).setCell ⟨B + 1, 0, none⟩ (.int .i64 rb.lsn)).setCell ⟨B + 1, 1, none⟩ (.int .i64 rb.kind)).setCell ⟨B + 1, 2, none⟩ (.int .i64 rb.level)).setCell ⟨B + 1, 3, none⟩ (.int .i64 rb.right)).setCell ⟨B + 1, 4, none⟩ (.string (M.bs rb.high))).setCell ⟨B + 1, 5, none⟩ (.slice bx rb.es.length dx)) = w24 at *; clear hone hi6; skip)
            go_roundw
            case rel => exact ⟨i + 1, ra, rb, ax, cx, bx, dx, by omega, by go_num, by rw [HTK.out]; exact HPN, by rw [HDR.out]; exact HQN, T24⟩
            case measure => simp [intOf]; omega
      · skip
        refine wpOp_step rfl (fun KX hKX => ?_)
        have HX := hid hKX
        clear hKX
        go_simp
        refine HX.out _ _ ⟨fun _ => HROW.out _ (T5.out.below.tr (Bel.al (Below.refl _ _) _)), ?_⟩
        clear HX
        try simp only [Act.put]
        refine until_step (j := 11) (by kernel_rfl) rfl (by kernel_rfl) (fun KX hKX => ?_)
        have HX := hid hKX
        clear hKX
        go_simp
        refine HX.out _ _ ⟨fun _ => HROW.out _ (T5.out.below.tr (Bel.al (Bel.al (Below.refl _ _) _) _)), ?_⟩
        clear HX
        try simp only [Act.put]
        refine until_step (j := 13) (by kernel_rfl) rfl (by kernel_rfl) (fun KX hKX => ?_)
        have HX := hid hKX
        clear hKX
        go_simp
        refine HX.out _ _ ⟨fun _ => HROW.out _ (T5.out.below.tr (Bel.al (Bel.al (Below.refl _ _) _) _)), ?_⟩
        clear HX
        try simp only [Act.put]
        refine until_step (j := 14) (by kernel_rfl) rfl (by kernel_rfl) (fun KX hKX => ?_)
        have HX := hid hKX
        clear hKX
        go_simp
        refine HX.out _ _ ⟨(fun h => by cases (Eq.trans (Eq.symm (show _ = true by kernel_rfl)) h)), ?_⟩
        clear HX hS
        refine until_done (by kernel_rfl) ⟨rfl, ?_⟩ _
        refine HL.out _ _ ?_
        clear HL
        obtain ⟨D1, D2⟩ := heap_two w5 (.cells #[.string (M.bs (L[j]'hjl).1), .string (M.bs (L[j]'hjl).2.1), .bool (L[j]'hjl).2.2] 26) (.cells #[.string (M.bs (L[i]'hil).1), .string (M.bs (L[i]'hil).2.1), .bool (L[i]'hil).2.2] 26)
        have T6 := hid (T5.out.bel (Bel.al (Bel.al (Below.refl _ _) (.cells #[.string (M.bs (L[j]'hjl).1), .string (M.bs (L[j]'hjl).2.1), .bool (L[j]'hjl).2.2] 26)) (.cells #[.string (M.bs (L[i]'hil).1), .string (M.bs (L[i]'hil).2.1), .bool (L[i]'hil).2.2] 26)))
        clear T5
        generalize hw6 : (w5.alloc (.cells #[.string (M.bs (L[j]'hjl).1), .string (M.bs (L[j]'hjl).2.1), .bool (L[j]'hjl).2.2] 26)).alloc (.cells #[.string (M.bs (L[i]'hil).1), .string (M.bs (L[i]'hil).2.1), .bool (L[i]'hil).2.2] 26) = w6 at *
        clear hw6
        obtain ⟨ga, hga⟩ : ∃ ga, ga = w5.heap.size := ⟨_, rfl⟩
        obtain ⟨gb, hgb⟩ : ∃ gb, gb = w5.heap.size + 1 := ⟨_, rfl⟩
        rw [← hgb] at D2 ⊢
        rw [← hga] at D1 ⊢
        clear hga hgb
        have D7 : Hid (Blk w6 gb #[.string (M.bs (L[i]'hil).1), .string (M.bs (L[i]'hil).2.1), .bool (L[i]'hil).2.2] 26) := D2
        have D8 : Hid (Blk w6 ga #[.string (M.bs (L[j]'hjl).1), .string (M.bs (L[j]'hjl).2.1), .bool (L[j]'hjl).2.2] 26) := D1
        clear D1 D2
        have HKI : Hid ((L[i]'hil).1.length ≤ 9223372036854775807) := by have := HK.out _ (List.getElem_mem hil); unfold maxLen at this; show _ ≤ _; omega
        have HKJ : Hid ((L[j]'hjl).1.length ≤ 9223372036854775807) := by have := HK.out _ (List.getElem_mem hjl); unfold maxLen at this; show _ ≤ _; omega
        have HTK : Hid (((L.take (i + 1)).map (fun e => e.1.take 10)).reverse = (L[i]'hil).1.take 10 :: ((L.take i).map (fun e => e.1.take 10)).reverse) := by
          show _ = _
          rw [List.take_succ_eq_append_getElem hil, List.map_append, List.reverse_append]; rfl
        have HDR : Hid (((L.take n).drop (n - (i + 1))).map (fun e => e.1.take 10) = (L[j]'hjl).1.take 10 :: ((L.take n).drop (n - i)).map (fun e => e.1.take 10)) := by
          show _ = _
          have e0 := HJJ.out
          have e1 : n - (i + 1) = j := by omega
          have e2 : n - i = j + 1 := by omega
          have hjt : j < (L.take n).length := by rw [List.length_take]; omega
          rw [e1, e2, List.drop_eq_getElem_cons hjt]
          simp [List.getElem_take]
        generalize (L[i]'hil).2.1 = vi at *
        generalize (L[i]'hil).2.2 = mi at *
        generalize (L[i]'hil).1 = ki at *
        generalize (L[j]'hjl).2.1 = vj at *
        generalize (L[j]'hjl).2.2 = mj at *
        generalize (L[j]'hjl).1 = kj at *
        obtain ⟨s0, s1, s2⟩ : w6.cell? ⟨gb, 0, none⟩ = some (.string (M.bs ki)) ∧ w6.cell? ⟨gb, 1, none⟩ = some (.string (M.bs vi)) ∧ w6.cell? ⟨gb, 2, none⟩ = some (.bool mi) := ⟨by rw [D7.out.cell]; rfl, by rw [D7.out.cell]; rfl, by rw [D7.out.cell]; rfl⟩
        obtain ⟨u0, u1, u2⟩ : w6.cell? ⟨ga, 0, none⟩ = some (.string (M.bs kj)) ∧ w6.cell? ⟨ga, 1, none⟩ = some (.string (M.bs vj)) ∧ w6.cell? ⟨ga, 2, none⟩ = some (.bool mj) := ⟨by rw [D8.out.cell]; rfl, by rw [D8.out.cell]; rfl, by rw [D8.out.cell]; rfl⟩
        have hzi : (M.bs ki).size = ki.length := M.bs_size _
        have hzj : (M.bs kj).size = kj.length := M.bs_size _
        have cei := cut10 ki
        have cej := cut10 kj
        obtain ⟨ni, hni, hni'⟩ : ∃ ni : Nat, min (ki.length : Int) 10 = (ni : Int) ∧ ni ≤ ki.length := ⟨min ki.length 10, by omega, by omega⟩
        obtain ⟨nj, hnj, hnj'⟩ : ∃ nj : Nat, min (kj.length : Int) 10 = (nj : Int) ∧ nj ≤ kj.length := ⟨min kj.length 10, by omega, by omega⟩
        rw [hni, Int.toNat_natCast] at cei
        rw [hnj, Int.toNat_natCast] at cej
        have hli := HKI.out
        have hlj := HKJ.out
        have HZI : Hid ((ki.take 10).length ≤ 10) := by show _ ≤ _; rw [List.length_take]; omega
        have HZJ : Hid ((kj.take 10).length ≤ 10) := by show _ ≤ _; rw [List.length_take]; omega
        generalize ki.take 10 = xi at *
        generalize kj.take 10 = xj at *
        have s9 := (bel_cell (Bel.al (Below.refl w6.heap.size w6) (.cells #[.string (M.bs xi), .string ⟨#[]⟩, .bool false] 40)) D8.out.lt 0).trans u0
        go_wp2_with fail
        obtain ⟨X1, X2⟩ := heap_two w6 (.cells #[.string (M.bs xi), .string ⟨#[]⟩, .bool false] 40) (.cells #[.string (M.bs xj), .string ⟨#[]⟩, .bool false] 40)
        have T10 := hid (T6.out.bel (Bel.al (Bel.al (Below.refl _ _) (.cells #[.string (M.bs xi), .string ⟨#[]⟩, .bool false] 40)) (.cells #[.string (M.bs xj), .string ⟨#[]⟩, .bool false] 40)))
        have Z6 := hid T6.out.b1.lt
        clear s0 s1 s2 u0 u1 u2 s9 D7 D8 hzi hzj cei cej hni hnj hni' hnj' hli hlj
        obtain ⟨g9, hg9⟩ : ∃ g, g = w6.heap.size := ⟨_, rfl⟩
        obtain ⟨g10, hg10⟩ : ∃ g, g = w6.heap.size + 1 := ⟨_, rfl⟩
        rw [← hg10] at X2 ⊢
        rw [← hg9] at X1 Z6 ⊢
        have hgg : g9 ≠ g10 := by omega
        have N9 : Hid (some g9 ≠ (Value.slice a p.es.length c).ownBlock ∧ some g9 ≠ (Value.slice a' q.es.length c').ownBlock) := ⟨fun e => by have := (T6.out.ox.lt g9 e.symm).2; omega, fun e => by have := (T6.out.oy.lt g9 e.symm).2; omega⟩
        have N10 : Hid (some g10 ≠ (Value.slice a p.es.length c).ownBlock ∧ some g10 ≠ (Value.slice a' q.es.length c').ownBlock) := ⟨fun e => by have := (T6.out.ox.lt g10 e.symm).2; omega, fun e => by have := (T6.out.oy.lt g10 e.symm).2; omega⟩
        clear T6
        have HG10 : Hid (B + 1 < g10) := by show _ < _; have := Z6.out; omega
        generalize hw10 : (w6.alloc (.cells #[.string (M.bs xi), .string ⟨#[]⟩, .bool false] 40)).alloc (.cells #[.string (M.bs xj), .string ⟨#[]⟩, .bool false] 40) = w10 at *
        clear hw10 hg9 hg10
        refine wp_last fun KL hKL => ?_
        have HL := hid hKL
        clear hKL
        refine region_until (S := fun W : World => W.cell? ⟨g9, 0, none⟩ = some (.string (M.bs xi)) ∧ W.cell? ⟨g10, 0, none⟩ = some (.string (M.bs xj))) (m := 7) (by kernel_rfl) ?_
        have Y1 : Hid (Blk w10.drew g9 #[.string (M.bs xi), .string ⟨#[]⟩, .bool false] 40) := X1
        have Y2 : Hid (Blk w10.drew g10 #[.string (M.bs xj), .string ⟨#[]⟩, .bool false] 40) := X2
        have T11 := hid (T10.out.bel (Bel.dr (Below.refl _ _)))
        clear X1 X2 T10
        generalize w10.drew = w11 at *
        have hS : w11.cell? ⟨g9, 0, none⟩ = some (.string (M.bs xi)) ∧ w11.cell? ⟨g10, 0, none⟩ = some (.string (M.bs xj)) := ⟨by rw [Y1.out.cell]; rfl, by rw [Y2.out.cell]; rfl⟩
        refine take_next (i := 0) (.pointer (some ⟨g9, 0, none⟩)) [1, 5, 7] (by kernel_rfl) (by kernel_rfl) rfl (by kernel_rfl) (by kernel_rfl) (by kernel_rfl) (by kernel_rfl) (fun _ _ _ h => absurd h.1 (by simp)) (Or.inl ⟨by rfl, fun w' hSw => by go_simp⟩) hS ?_
        try simp only [Act.put]
        refine take_next (i := 1) (.string (M.bs xi)) [5, 7] (by kernel_rfl) (by kernel_rfl) rfl (by kernel_rfl) (by kernel_rfl) (by kernel_rfl) (by kernel_rfl) (fun _ _ _ h => absurd h.1 (by simp)) (Or.inl ⟨by rfl, fun w' hSw => by obtain ⟨s0, s1⟩ := hSw; go_simp⟩) hS ?_
        try simp only [Act.put]
        refine take_next (i := 2) (.pointer (some ⟨g10, 0, none⟩)) [3, 7] (by kernel_rfl) (by kernel_rfl) rfl (by kernel_rfl) (by kernel_rfl) (by kernel_rfl) (by kernel_rfl) (fun _ _ _ h => absurd h.1 (by simp)) (Or.inl ⟨by rfl, fun w' hSw => by go_simp⟩) hS ?_
        try simp only [Act.put]
        refine take_next (i := 3) (.string (M.bs xj)) [7] (by kernel_rfl) (by kernel_rfl) rfl (by kernel_rfl) (by kernel_rfl) (by kernel_rfl) (by kernel_rfl) (fun _ _ _ h => absurd h.1 (by simp)) (Or.inl ⟨by rfl, fun w' hSw => by obtain ⟨s0, s1⟩ := hSw; go_simp⟩) hS ?_
        try simp only [Act.put]
        have y9 : w11.cell? ⟨g9, 1, none⟩ = some (.string ⟨#[]⟩) := by rw [Y1.out.cell]; rfl
        have z9 := Y1.out.frozen 1
        refine until_step (j := 4) (by kernel_rfl) rfl (by kernel_rfl) (fun KX hKX => ?_)
        have HX := hid hKX
        clear hKX
        go_simp
        refine HX.out _ _ ⟨fun _ => hS, ?_⟩
        clear HX
        try simp only [Act.put]
        refine until_step (j := 5) (by kernel_rfl) rfl (by kernel_rfl) (fun KX hKX => ?_)
        have HX := hid hKX
        clear hKX
        go_simp
        have V1 : Hid (Blk (w11.setCell ⟨g9, 1, none⟩ (.string (M.bs xi))) g9 #[.string (M.bs xi), .string (M.bs xi), .bool false] 40) := hid (by
          have z := Y1.out.set 1 (.string (M.bs xi))
          simpa using z)
        have V2 : Hid (Blk (w11.setCell ⟨g9, 1, none⟩ (.string (M.bs xi))) g10 #[.string (M.bs xj), .string ⟨#[]⟩, .bool false] 40) := blk_other Y2.out (fun e => hgg e.symm) _ _
        have VT := hid (T11.out.other (B' := g9) (by have := Z6.out; omega) N9.out.1 N9.out.2 1 (.string (M.bs xi)))
        have hS5 : (w11.setCell ⟨g9, 1, none⟩ (.string (M.bs xi))).cell? ⟨g9, 0, none⟩ = some (.string (M.bs xi)) ∧ (w11.setCell ⟨g9, 1, none⟩ (.string (M.bs xi))).cell? ⟨g10, 0, none⟩ = some (.string (M.bs xj)) := ⟨by rw [V1.out.cell]; rfl, by rw [V2.out.cell]; rfl⟩
        refine HX.out _ _ ⟨fun _ => hS5, ?_⟩
        clear HX Y1 Y2 T11 y9 z9 hS
        generalize w11.setCell ⟨g9, 1, none⟩ (.string (M.bs xi)) = w11b at *
        try simp only [Act.put]
        have y9 : w11b.cell? ⟨g10, 1, none⟩ = some (.string ⟨#[]⟩) := by rw [V2.out.cell]; rfl
        have z9 := V2.out.frozen 1
        refine until_step (j := 6) (by kernel_rfl) rfl (by kernel_rfl) (fun KX hKX => ?_)
        have HX := hid hKX
        clear hKX
        go_simp
        refine HX.out _ _ ⟨fun _ => hS5, ?_⟩
        clear HX
        try simp only [Act.put]
        refine until_step (j := 7) (by kernel_rfl) rfl (by kernel_rfl) (fun KX hKX => ?_)
        have HX := hid hKX
        clear hKX
        go_simp
        have U1 : Hid (Blk (w11b.setCell ⟨g10, 1, none⟩ (.string (M.bs xj))) g9 #[.string (M.bs xi), .string (M.bs xi), .bool false] 40) := blk_other V1.out hgg _ _
        have U2 : Hid (Blk (w11b.setCell ⟨g10, 1, none⟩ (.string (M.bs xj))) g10 #[.string (M.bs xj), .string (M.bs xj), .bool false] 40) := hid (by
          have z := V2.out.set 1 (.string (M.bs xj))
          simpa using z)
        have T12 := hid (VT.out.other (B' := g10) HG10.out N10.out.1 N10.out.2 1 (.string (M.bs xj)))
        refine HX.out _ _ ⟨(fun h => by cases (Eq.trans (Eq.symm (show _ = true by kernel_rfl)) h)), ?_⟩
        clear HX V1 V2 VT y9 z9 hS5
        generalize w11b.setCell ⟨g10, 1, none⟩ (.string (M.bs xj)) = w12 at *
        refine until_done (by kernel_rfl) ⟨rfl, ?_⟩ _
        refine HL.out _ _ ?_
        clear HL
        have HINSa := hid (insert_any p (.slice a p.es.length c) (xi, xi, false) w12 (HP.out.sm (by simp; omega)) (own_vs T12.out.ox) HP.out.up (by have := HZI.out; show xi.length ≤ _; omega) (by have := HZI.out; show xi.length ≤ _; omega))
        have hti := HP.out.ins (by simp; omega) xi HZI.out
        obtain ⟨ra, hr'⟩ : ∃ r, r = M.insP p (xi, xi, false) := ⟨_, rfl⟩
        rw [← hr'] at HINSa hti
        clear hr'
        obtain ⟨t0, t1, t2, t3, t4, t5⟩ := blk_cells T12.out.b0
        obtain ⟨k0, k1, k2⟩ : w12.cell? ⟨g9, 0, none⟩ = some (.string (M.bs xi)) ∧ w12.cell? ⟨g9, 1, none⟩ = some (.string (M.bs xi)) ∧ w12.cell? ⟨g9, 2, none⟩ = some (.bool false) := ⟨by rw [U1.out.cell]; rfl, by rw [U1.out.cell]; rfl, by rw [U1.out.cell]; rfl⟩
        rcases hti with ⟨hE, hTI⟩ | ⟨hE, hTI⟩
        · skip
          rw [hE] at HINSa
          have HPN := hid hTI
          clear hE hTI
          go_wp2_with fail
          refine HINSa.out.mono ?_
          rintro e w13 ⟨x2, rfl, o2, k13⟩
          obtain ⟨ax, cx, rfl⟩ := row_form o2
          have T13 := hid ((T12.out.bel k13).bel (Bel.al (Below.refl _ _) (.cells #[.int .i64 ra.lsn, .int .i64 ra.kind, .int .i64 ra.level, .int .i64 ra.right, .string (M.bs ra.high), .slice ax ra.es.length cx] 30)))
          have O2 := hid (own_bel o2 (Bel.al (Below.refl _ _) (.cells #[.int .i64 ra.lsn, .int .i64 ra.kind, .int .i64 ra.level, .int .i64 ra.right, .string (M.bs ra.high), .slice ax ra.es.length cx] 30)))
          have Z2 := hid T12.out.b1.lt
          have U13 := hid ((U2.out.below k13 U2.out.lt).below (Bel.al (Below.refl _ _) (.cells #[.int .i64 ra.lsn, .int .i64 ra.kind, .int .i64 ra.level, .int .i64 ra.right, .string (M.bs ra.high), .slice ax ra.es.length cx] 30)) (U2.out.below k13 U2.out.lt).lt)
          clear o2 k13 t0 t1 t2 t3 t4 t5 k0 k1 k2
          obtain ⟨v0, v1, v2, v3, v4, v5⟩ := blk_cells T13.out.b1
          obtain ⟨k0, k1, k2⟩ : (w13.alloc (.cells #[.int .i64 ra.lsn, .int .i64 ra.kind, .int .i64 ra.level, .int .i64 ra.right, .string (M.bs ra.high), .slice ax ra.es.length cx] 30)).cell? ⟨g10, 0, none⟩ = some (.string (M.bs xj)) ∧ (w13.alloc (.cells #[.int .i64 ra.lsn, .int .i64 ra.kind, .int .i64 ra.level, .int .i64 ra.right, .string (M.bs ra.high), .slice ax ra.es.length cx] 30)).cell? ⟨g10, 1, none⟩ = some (.string (M.bs xj)) ∧ (w13.alloc (.cells #[.int .i64 ra.lsn, .int .i64 ra.kind, .int .i64 ra.level, .int .i64 ra.right, .string (M.bs ra.high), .slice ax ra.es.length cx] 30)).cell? ⟨g10, 2, none⟩ = some (.bool false) := ⟨by rw [U13.out.cell]; rfl, by rw [U13.out.cell]; rfl, by rw [U13.out.cell]; rfl⟩
          clear O2
          go_wp2_with fail
          generalize w13.alloc (.cells #[.int .i64 ra.lsn, .int .i64 ra.kind, .int .i64 ra.level, .int .i64 ra.right, .string (M.bs ra.high), .slice ax ra.es.length cx] 30) = w14 at *
          have HINSb := hid (insert_any q (.slice a' q.es.length c') (xj, xj, false) w14 (HQ.out.sm (by simp; omega)) (own_vs T13.out.oy) HQ.out.up (by have := HZJ.out; show xj.length ≤ _; omega) (by have := HZJ.out; show xj.length ≤ _; omega))
          have hti := HQ.out.ins (by simp; omega) xj HZJ.out
          obtain ⟨rb, hr'⟩ : ∃ r, r = M.insP q (xj, xj, false) := ⟨_, rfl⟩
          rw [← hr'] at HINSb hti
          clear hr'
          rcases hti with ⟨hE, hTI⟩ | ⟨hE, hTI⟩
          · skip
            rw [hE] at HINSb
            have HQN := hid hTI
            clear hE hTI
            refine HINSb.out.mono ?_
            rintro e w23 ⟨x2, rfl, o2, k13⟩
            obtain ⟨bx, dx, rfl⟩ := row_form o2
            have T23 := hid ((T13.out.bel k13).bel (Bel.al (Below.refl _ _) (.cells #[.int .i64 rb.lsn, .int .i64 rb.kind, .int .i64 rb.level, .int .i64 rb.right, .string (M.bs rb.high), .slice bx rb.es.length dx] 30)))
            have O2 := hid (own_bel o2 (Bel.al (Below.refl _ _) (.cells #[.int .i64 rb.lsn, .int .i64 rb.kind, .int .i64 rb.level, .int .i64 rb.right, .string (M.bs rb.high), .slice bx rb.es.length dx] 30)))
            have Z2 := hid T13.out.b1.lt
            clear o2 k13 v0 v1 v2 v3 v4 v5 k0 k1 k2
            clear O2
            go_wp2_with fail
            generalize w23.alloc (.cells #[.int .i64 rb.lsn, .int .i64 rb.kind, .int .i64 rb.level, .int .i64 rb.right, .string (M.bs rb.high), .slice bx rb.es.length dx] 30) = w24 at *
            go_roundw
            case rel => exact ⟨i + 1, p, q, a, c, a', c', by omega, by go_num, by rw [HTK.out]; exact HPN, by rw [HDR.out]; exact HQN, T23⟩
            case measure => simp [intOf]; omega
          · skip
            rw [hE] at HINSb
            have HQN := hid hTI
            clear hE hTI
            refine HINSb.out.mono ?_
            rintro e w23 ⟨x2, rfl, o2, k13⟩
            obtain ⟨bx, dx, rfl⟩ := row_form o2
            have T23 := hid ((T13.out.bel k13).bel (Bel.al (Below.refl _ _) (.cells #[.int .i64 rb.lsn, .int .i64 rb.kind, .int .i64 rb.level, .int .i64 rb.right, .string (M.bs rb.high), .slice bx rb.es.length dx] 30)))
            have O2 := hid (own_bel o2 (Bel.al (Below.refl _ _) (.cells #[.int .i64 rb.lsn, .int .i64 rb.kind, .int .i64 rb.level, .int .i64 rb.right, .string (M.bs rb.high), .slice bx rb.es.length dx] 30)))
            have Z2 := hid T13.out.b1.lt
            clear o2 k13 v0 v1 v2 v3 v4 v5 k0 k1 k2
            have hth : (w23.alloc (.cells #[.int .i64 rb.lsn, .int .i64 rb.kind, .int .i64 rb.level, .int .i64 rb.right, .string (M.bs rb.high), .slice bx rb.es.length dx] 30)).there (B + 1) 0 (#[.int .i64 rb.lsn, .int .i64 rb.kind, .int .i64 rb.level, .int .i64 rb.right, .string (M.bs rb.high), .slice bx rb.es.length dx] : Array Value).size := fun j hj => by
              rw [T23.out.b1.cell, T23.out.b1.frozen]
              refine ⟨?_, rfl⟩
              have : j < 6 := hj
              simp
              omega
            have hone : (#[.int .i64 rb.lsn, .int .i64 rb.kind, .int .i64 rb.level, .int .i64 rb.right, .string (M.bs rb.high), .slice bx rb.es.length dx] : Array Value).all (·.oneCell') = true := by simp [Value.oneCell']
            have hi6 : (Try.prog.info? 30).map (·.size) = some (#[.int .i64 rb.lsn, .int .i64 rb.kind, .int .i64 rb.level, .int .i64 rb.right, .string (M.bs rb.high), .slice bx rb.es.length dx] : Array Value).size := by rw [info30]; rfl
            go_wp2_with (refine wpList_store_mid rfl 30 (.tmp 4) (.tmp 80) rfl (B + 1) 0 #[.int .i64 rb.lsn, .int .i64 rb.kind, .int .i64 rb.level, .int .i64 rb.right, .string (M.bs rb.high), .slice bx rb.es.length dx] (by rfl) (by rfl) hth hi6 hone ?_; simp only [World.setCells, Nat.zero_add, Nat.reduceAdd]; have T24 := hid (T23.out.put1 O2.out (by have := Z2.out; omega)); clear O2 T23; clear hth; generalize (((((((w23.alloc (.cells #[.int .i64 rb.lsn, .int .i64 rb.kind, .int .i64 rb.level, .int .i64 rb.right, .string (M.bs rb.high), .slice bx rb.es.length dx] 30)).setCell ⟨B + 1, 0, none⟩ (.int .i64 rb.lsn)).setCell ⟨B + 1, 1, none⟩ (.int .i64 rb.kind)).setCell ⟨B + 1, 2, none⟩ (.int .i64 rb.level)).setCell ⟨B + 1, 3, none⟩ (.int .i64 rb.right)).setCell ⟨B + 1, 4, none⟩ (.string (M.bs rb.high))).setCell ⟨B + 1, 5, none⟩ (.slice bx rb.es.length dx)) = w24 at *; clear hone hi6; skip)
            go_roundw
            case rel => exact ⟨i + 1, p, rb, a, c, bx, dx, by omega, by go_num, by rw [HTK.out]; exact HPN, by rw [HDR.out]; exact HQN, T24⟩
            case measure => simp [intOf]; omega
        · skip
          rw [hE] at HINSa
          have HPN := hid hTI
          clear hE hTI
          go_wp2_with fail
          refine HINSa.out.mono ?_
          rintro e w13 ⟨x2, rfl, o2, k13⟩
          obtain ⟨ax, cx, rfl⟩ := row_form o2
          have T13 := hid ((T12.out.bel k13).bel (Bel.al (Below.refl _ _) (.cells #[.int .i64 ra.lsn, .int .i64 ra.kind, .int .i64 ra.level, .int .i64 ra.right, .string (M.bs ra.high), .slice ax ra.es.length cx] 30)))
          have O2 := hid (own_bel o2 (Bel.al (Below.refl _ _) (.cells #[.int .i64 ra.lsn, .int .i64 ra.kind, .int .i64 ra.level, .int .i64 ra.right, .string (M.bs ra.high), .slice ax ra.es.length cx] 30)))
          have Z2 := hid T12.out.b1.lt
          have U13 := hid ((U2.out.below k13 U2.out.lt).below (Bel.al (Below.refl _ _) (.cells #[.int .i64 ra.lsn, .int .i64 ra.kind, .int .i64 ra.level, .int .i64 ra.right, .string (M.bs ra.high), .slice ax ra.es.length cx] 30)) (U2.out.below k13 U2.out.lt).lt)
          clear o2 k13 t0 t1 t2 t3 t4 t5 k0 k1 k2
          have hth : (w13.alloc (.cells #[.int .i64 ra.lsn, .int .i64 ra.kind, .int .i64 ra.level, .int .i64 ra.right, .string (M.bs ra.high), .slice ax ra.es.length cx] 30)).there B 0 (#[.int .i64 ra.lsn, .int .i64 ra.kind, .int .i64 ra.level, .int .i64 ra.right, .string (M.bs ra.high), .slice ax ra.es.length cx] : Array Value).size := fun j hj => by
            rw [T13.out.b0.cell, T13.out.b0.frozen]
            refine ⟨?_, rfl⟩
            have : j < 6 := hj
            simp
            omega
          have hone : (#[.int .i64 ra.lsn, .int .i64 ra.kind, .int .i64 ra.level, .int .i64 ra.right, .string (M.bs ra.high), .slice ax ra.es.length cx] : Array Value).all (·.oneCell') = true := by simp [Value.oneCell']
          have hi6 : (Try.prog.info? 30).map (·.size) = some (#[.int .i64 ra.lsn, .int .i64 ra.kind, .int .i64 ra.level, .int .i64 ra.right, .string (M.bs ra.high), .slice ax ra.es.length cx] : Array Value).size := by rw [info30]; rfl
          go_wp2_with (refine wpList_store_mid rfl 30 (.tmp 3) (.tmp 69) rfl B 0 #[.int .i64 ra.lsn, .int .i64 ra.kind, .int .i64 ra.level, .int .i64 ra.right, .string (M.bs ra.high), .slice ax ra.es.length cx] (by rfl) (by rfl) hth hi6 hone ?_; simp only [World.setCells, Nat.zero_add, Nat.reduceAdd]; have T14 := hid (T13.out.put0 O2.out (by have := Z2.out; omega)); have U14 := hid (other6 U13.out (show g10 ≠ B by have := HG10.out; omega) (.int .i64 ra.lsn) (.int .i64 ra.kind) (.int .i64 ra.level) (.int .i64 ra.right) (.string (M.bs ra.high)) (.slice ax ra.es.length cx)); clear U13 O2 T13; clear hth; generalize (((((((w13.alloc (.cells #[.int .i64 ra.lsn, .int .i64 ra.kind, .int .i64 ra.level, .int .i64 ra.right, .string (M.bs ra.high), .slice ax ra.es.length cx] 30)).setCell ⟨B, 0, none⟩ (.int .i64 ra.lsn)).setCell ⟨B, 1, none⟩ (.int .i64 ra.kind)).setCell ⟨B, 2, none⟩ (.int .i64 ra.level)).setCell ⟨B, 3, none⟩ (.int .i64 ra.right)).setCell ⟨B, 4, none⟩ (.string (M.bs ra.high))).setCell ⟨B, 5, none⟩ (.slice ax ra.es.length cx)) = w14 at *; clear hone hi6; obtain ⟨v0, v1, v2, v3, v4, v5⟩ := blk_cells T14.out.b1; obtain ⟨k0, k1, k2⟩ : w14.cell? ⟨g10, 0, none⟩ = some (.string (M.bs xj)) ∧ w14.cell? ⟨g10, 1, none⟩ = some (.string (M.bs xj)) ∧ w14.cell? ⟨g10, 2, none⟩ = some (.bool false) := ⟨by rw [U14.out.cell]; rfl, by rw [U14.out.cell]; rfl, by rw [U14.out.cell]; rfl⟩)
          have HINSb := hid (insert_any q (.slice a' q.es.length c') (xj, xj, false) w14 (HQ.out.sm (by simp; omega)) (own_vs T14.out.oy) HQ.out.up (by have := HZJ.out; show xj.length ≤ _; omega) (by have := HZJ.out; show xj.length ≤ _; omega))
          have hti := HQ.out.ins (by simp; omega) xj HZJ.out
          obtain ⟨rb, hr'⟩ : ∃ r, r = M.insP q (xj, xj, false) := ⟨_, rfl⟩
          rw [← hr'] at HINSb hti
          clear hr'
          rcases hti with ⟨hE, hTI⟩ | ⟨hE, hTI⟩
          · skip
            rw [hE] at HINSb
            have HQN := hid hTI
            clear hE hTI
            refine HINSb.out.mono ?_
            rintro e w23 ⟨x2, rfl, o2, k13⟩
            obtain ⟨bx, dx, rfl⟩ := row_form o2
            have T23 := hid ((T14.out.bel k13).bel (Bel.al (Below.refl _ _) (.cells #[.int .i64 rb.lsn, .int .i64 rb.kind, .int .i64 rb.level, .int .i64 rb.right, .string (M.bs rb.high), .slice bx rb.es.length dx] 30)))
            have O2 := hid (own_bel o2 (Bel.al (Below.refl _ _) (.cells #[.int .i64 rb.lsn, .int .i64 rb.kind, .int .i64 rb.level, .int .i64 rb.right, .string (M.bs rb.high), .slice bx rb.es.length dx] 30)))
            have Z2 := hid T14.out.b1.lt
            clear o2 k13 v0 v1 v2 v3 v4 v5 k0 k1 k2
            clear O2
            go_wp2_with fail
            generalize w23.alloc (.cells #[.int .i64 rb.lsn, .int .i64 rb.kind, .int .i64 rb.level, .int .i64 rb.right, .string (M.bs rb.high), .slice bx rb.es.length dx] 30) = w24 at *
            go_roundw
            case rel => exact ⟨i + 1, ra, q, ax, cx, a', c', by omega, by go_num, by rw [HTK.out]; exact HPN, by rw [HDR.out]; exact HQN, T23⟩
            case measure => simp [intOf]; omega
          · skip
            rw [hE] at HINSb
            have HQN := hid hTI
            clear hE hTI
            refine HINSb.out.mono ?_
            rintro e w23 ⟨x2, rfl, o2, k13⟩
            obtain ⟨bx, dx, rfl⟩ := row_form o2
            have T23 := hid ((T14.out.bel k13).bel (Bel.al (Below.refl _ _) (.cells #[.int .i64 rb.lsn, .int .i64 rb.kind, .int .i64 rb.level, .int .i64 rb.right, .string (M.bs rb.high), .slice bx rb.es.length dx] 30)))
            have O2 := hid (own_bel o2 (Bel.al (Below.refl _ _) (.cells #[.int .i64 rb.lsn, .int .i64 rb.kind, .int .i64 rb.level, .int .i64 rb.right, .string (M.bs rb.high), .slice bx rb.es.length dx] 30)))
            have Z2 := hid T14.out.b1.lt
            clear o2 k13 v0 v1 v2 v3 v4 v5 k0 k1 k2
            have hth : (w23.alloc (.cells #[.int .i64 rb.lsn, .int .i64 rb.kind, .int .i64 rb.level, .int .i64 rb.right, .string (M.bs rb.high), .slice bx rb.es.length dx] 30)).there (B + 1) 0 (#[.int .i64 rb.lsn, .int .i64 rb.kind, .int .i64 rb.level, .int .i64 rb.right, .string (M.bs rb.high), .slice bx rb.es.length dx] : Array Value).size := fun j hj => by
              rw [T23.out.b1.cell, T23.out.b1.frozen]
              refine ⟨?_, rfl⟩
              have : j < 6 := hj
              simp
              omega
            have hone : (#[.int .i64 rb.lsn, .int .i64 rb.kind, .int .i64 rb.level, .int .i64 rb.right, .string (M.bs rb.high), .slice bx rb.es.length dx] : Array Value).all (·.oneCell') = true := by simp [Value.oneCell']
            have hi6 : (Try.prog.info? 30).map (·.size) = some (#[.int .i64 rb.lsn, .int .i64 rb.kind, .int .i64 rb.level, .int .i64 rb.right, .string (M.bs rb.high), .slice bx rb.es.length dx] : Array Value).size := by rw [info30]; rfl
            go_wp2_with (refine wpList_store_mid rfl 30 (.tmp 4) (.tmp 80) rfl (B + 1) 0 #[.int .i64 rb.lsn, .int .i64 rb.kind, .int .i64 rb.level, .int .i64 rb.right, .string (M.bs rb.high), .slice bx rb.es.length dx] (by rfl) (by rfl) hth hi6 hone ?_; simp only [World.setCells, Nat.zero_add, Nat.reduceAdd]; have T24 := hid (T23.out.put1 O2.out (by have := Z2.out; omega)); clear O2 T23; clear hth; generalize (((((((w23.alloc (.cells #[.int .i64 rb.lsn, .int .i64 rb.kind, .int .i64 rb.level, .int .i64 rb.right, .string (M.bs rb.high), .slice bx rb.es.length dx] 30)).setCell ⟨B + 1, 0, none⟩ (.int .i64 rb.lsn)).setCell ⟨B + 1, 1, none⟩ (.int .i64 rb.kind)).setCell ⟨B + 1, 2, none⟩ (.int .i64 rb.level)).setCell ⟨B + 1, 3, none⟩ (.int .i64 rb.right)).setCell ⟨B + 1, 4, none⟩ (.string (M.bs rb.high))).setCell ⟨B + 1, 5, none⟩ (.slice bx rb.es.length dx)) = w24 at *; clear hone hi6; skip)
            go_roundw
            case rel => exact ⟨i + 1, ra, rb, ax, cx, bx, dx, by omega, by go_num, by rw [HTK.out]; exact HPN, by rw [HDR.out]; exact HQN, T24⟩
            case measure => simp [intOf]; omega
    · skip
      obtain rfl : i = n := by omega
      have hin : ¬ (i : Int) < (i : Int) := by omega
      have hpq : p.es = q.es := HP.out.ext HQ.out (fun k => by simp)
      obtain ⟨t0, t1, t2, t3, t4, t5⟩ := blk_cells HT.out.b0
      obtain ⟨v0, v1, v2, v3, v4, v5⟩ := blk_cells HT.out.b1
      rw [← hpq] at v5
      have HPQ := hid hpq
      have hq0 : ((p.es.length : Int) != (p.es.length : Int)) = false := by simp
      have hsm := HP.out.sm (by simp; omega)
      have hlen := hsm.es
      have HSM := hid hsm
      clear hpq hsm v0 v1 v2 v3 v4
      go_wp2_with fail
      clear t0 t1 t2 t3 t4 t5 v5
      go_loopw [15] (fun kv wr2 => ∃ k : Nat, k ≤ p.es.length ∧ kv = .int .i64 k ∧ Hid (Bel wr wr2)) (fun kv _ => p.es.length - (intOf kv).toNat)
      case atStart => exact ⟨0, by omega, rfl, hid (Below.refl _ _)⟩
      case round =>
        obtain ⟨k, hk, rfl, HB⟩ := hrel
        have HT2 := hid (HT.out.bel HB.out)
        obtain ⟨t0, t1, t2, t3, t4, t5⟩ := blk_cells HT2.out.b0
        obtain ⟨v0, v1, v2, v3, v4, v5⟩ := blk_cells HT2.out.b1
        rw [← HPQ.out] at v5
        clear v0 v1 v2 v3 v4
        by_cases hkl : k < p.es.length
        · have hki : (k : Int) < (p.es.length : Int) := by omega
          obtain ⟨b1, o1, e1, hr1⟩ : ∃ b1 o1, a = some ⟨b1, o1, none⟩ ∧ Row3 wr b1 o1 p.es := by
            rcases own_vs HT2.out.ox with ⟨_, h0⟩ | ⟨b1, o1, cap1, h, _, _, hr⟩
            · rw [h0] at hkl; simp at hkl
            · cases h; exact ⟨b1, o1, rfl, hr⟩
          obtain ⟨b2, o2, e2, hr2⟩ : ∃ b2 o2, a' = some ⟨b2, o2, none⟩ ∧ Row3 wr b2 o2 p.es := by
            rcases own_vs HT2.out.oy with ⟨_, h0⟩ | ⟨b2, o2, cap2, h, _, _, hr⟩
            · rw [HPQ.out, h0] at hkl; simp at hkl
            · cases h; exact ⟨b2, o2, rfl, by rw [HPQ.out]; exact hr⟩
          subst e1 e2
          obtain ⟨c1, c2, c3⟩ := hr1 k hkl
          obtain ⟨d1, d2, d3⟩ := hr2 k hkl
          clear hr1 hr2
          generalize p.es[k].2.1 = vv at *
          generalize p.es[k].2.2 = mm at *
          generalize p.es[k].1 = kk at *
          have z1 : (M.bs kk).toList = kk := M.bs_toList _
          have z2 : (M.bs vv).toList = vv := M.bs_toList _
          go_wp2_with fail
          go_quiet (fail)
          go_wp2_with fail
          go_roundw
          case rel => exact ⟨k + 1, by omega, by go_num, hid (HB.out.tr (below_drewN (Below.refl _ _) _))⟩
          case measure => simp [intOf]; omega
        · obtain rfl : k = p.es.length := by omega
          have hki : ¬ (p.es.length : Int) < (p.es.length : Int) := by omega
          have HRT := hid (right_leaf p (.slice a p.es.length c) wr HSM.out (own_vs HT2.out.ox) HP.out.kind (by rw [HP.out.level]; omega))
          rw [HP.out.rises] at HRT
          go_wp2_with (go_at_call 20; refine HRT.out.mono ?_; rintro e w9 ⟨rfl, k9⟩)
          go_ret
          exact ⟨rfl, HT2.out.below.tr k9⟩
end Go.Proofs.Ytcmplklefeicbaa
