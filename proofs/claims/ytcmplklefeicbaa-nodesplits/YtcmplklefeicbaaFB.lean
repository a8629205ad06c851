/-
  The law NodeBack, walked.
-/
import Derived.Test.YtcmplklefeicbaaFA
namespace Go.Proofs.Ytcmplklefeicbaa
open Go.RowKit
set_option maxRecDepth 100000

/-- Both pages in their boxes. -/
structure KB (w W : World) (ga : Nat) (p : M.Pg) (x y : Value) : Prop where
  a : Blk W ga #[.int .i64 p.lsn, .int .i64 p.kind, .int .i64 p.level, .int .i64 p.right, .string (M.bs p.high), x] 30
  b : Blk W (ga + 1) #[.int .i64 p.lsn, .int .i64 p.kind, .int .i64 p.level, .int .i64 p.right, .string (M.bs p.high), y] 33
  ox : W.ownsRow (w.heap.size + 1 + 1) 40 3 x p.es.length (csE p.es)
  oy : W.ownsRow (w.heap.size + 1 + 1) 43 3 y p.es.length (csE p.es)
  below : Bel w W
  lt : w.heap.size + 1 < ga
theorem KB.bel {w W W' : World} {ga : Nat} {p : M.Pg} {x y : Value} (h : KB w W ga p x y) (k : Bel W W') : KB w W' ga p x y :=
  ⟨h.a.below k h.a.lt, h.b.below k h.b.lt, own_bel h.ox k, bel43 h.oy k, h.below.tr k, h.lt⟩
theorem KB.other {w W : World} {ga : Nat} {p : M.Pg} {x y : Value} (h : KB w W ga p x y) {B : Nat} (hB : B = w.heap.size + 1) (_hT : True) (j : Nat) (v : Value) : KB w (W.setCell ⟨B, j, none⟩ v) ga p x y := by
  have hlt := h.lt
  exact ⟨blk_other h.a (by omega) _ _, blk_other h.b (by omega) _ _, ownsRow_setCell_other (a := ⟨B, j, none⟩) h.ox (fun e => by have z : w.heap.size + 1 + 1 ≤ B := (h.ox.lt B e).1; omega) v, ownsRow_setCell_other (a := ⟨B, j, none⟩) h.oy (fun e => by have z : w.heap.size + 1 + 1 ≤ B := (h.oy.lt B e).1; omega) v, Below.setCell h.below (show w.heap.size ≤ B by omega) v, hlt⟩
theorem KB.start {w W : World} {p : M.Pg} {x y : Value} (ox : W.ownsRow (w.heap.size + 1 + 1) 40 3 x p.es.length (csE p.es)) (oy : W.ownsRow (w.heap.size + 1 + 1) 43 3 y p.es.length (csE p.es)) (k : Bel w W) (hl : w.heap.size + 1 < W.heap.size) :
    KB w ((W.alloc (.cells #[.int .i64 p.lsn, .int .i64 p.kind, .int .i64 p.level, .int .i64 p.right, .string (M.bs p.high), x] 30)).alloc (.cells #[.int .i64 p.lsn, .int .i64 p.kind, .int .i64 p.level, .int .i64 p.right, .string (M.bs p.high), y] 33)) W.heap.size p x y := by
  obtain ⟨h1, h2⟩ := heap_two W (.cells #[.int .i64 p.lsn, .int .i64 p.kind, .int .i64 p.level, .int .i64 p.right, .string (M.bs p.high), x] 30) (.cells #[.int .i64 p.lsn, .int .i64 p.kind, .int .i64 p.level, .int .i64 p.right, .string (M.bs p.high), y] 33)
  have kA : Bel W ((W.alloc (.cells #[.int .i64 p.lsn, .int .i64 p.kind, .int .i64 p.level, .int .i64 p.right, .string (M.bs p.high), x] 30)).alloc (.cells #[.int .i64 p.lsn, .int .i64 p.kind, .int .i64 p.level, .int .i64 p.right, .string (M.bs p.high), y] 33)) := Bel.al (Bel.al (Below.refl _ _) _) _
  exact ⟨h1, h2, own_bel ox kA, bel43 oy kA, k.tr kA, hl⟩
theorem blk_cells5 {W : World} {B : Nat} {t : TypeId} {a0 a1 a2 a3 a4 : Value} (h : Blk W B #[a0, a1, a2, a3, a4] t) :
    W.cell? ⟨B, 0, none⟩ = some a0 ∧ W.cell? ⟨B, 1, none⟩ = some a1 ∧ W.cell? ⟨B, 2, none⟩ = some a2 ∧ W.cell? ⟨B, 3, none⟩ = some a3 ∧ W.cell? ⟨B, 4, none⟩ = some a4 :=
  ⟨by rw [h.cell]; rfl, by rw [h.cell]; rfl, by rw [h.cell]; rfl, by rw [h.cell]; rfl, by rw [h.cell]; rfl⟩
theorem tidy_set {w w1 : World} {a0 a1 a2 a3 : Value} {td : Bool} {cs : Array Value} (h1 : Blk w1 w.heap.size #[a0, a1, a2, a3, .bool td] 24) (h2 : Blk w1 (w.heap.size + 1) cs 26) (hb : Bel w w1) :
    ∃ w2, Hid (Blk w2 w.heap.size #[a0, a1, a2, a3, .bool true] 24) ∧ Hid (Blk w2 (w.heap.size + 1) cs 26) ∧ Hid (Bel w w2) ∧ Hid (w1.setCell ⟨w.heap.size, 4, none⟩ (.bool true) = w2) := by
  refine ⟨_, hid ?_, hid (blk_other h2 (by omega) 4 (.bool true)), hid (Below.setCell hb (p := ⟨w.heap.size, 4, none⟩) (by simp) _), hid rfl⟩
  have z := h1.set 4 (.bool true)
  simpa using z
theorem free_bounds {p : M.Pg} (h : Sm p) : -3000000 ≤ M.free p ∧ M.free p ≤ 489 := by
  have h1 := szs_le p.es h.each
  have h2 := h.high
  have h3 : p.es.length * 2003 ≤ 1000 * 2003 := Nat.mul_le_mul_right _ h.es
  simp only [M.free]
  omega
theorem made_page (lv rt : Int) (hg : List UInt8) (L : List M.En) (ar : Option Addr) (cap : Nat) (td : Bool) (w : World) (hv : Vals w (.slice ar L.length cap) L) (hL : L.length ≤ maxLen) (hk : ∀ e ∈ L, e.1.length ≤ maxLen ∧ e.2.1.length ≤ maxLen) (hh : hg.length ≤ maxLen) :
    Calls Try.prog 9 #[.agg #[.int .i64 lv, .int .i64 rt, .string (M.bs hg), .slice ar L.length cap, .bool td]] w fun e w' => ∃ (p : M.Pg) (x y : Value), e = .returned (.tuple #[pv p x, pv p y]) ∧ w'.ownsRow w.heap.size 40 3 x p.es.length (csE p.es) ∧ w'.ownsRow w.heap.size 43 3 y p.es.length (csE p.es) ∧ Bel w w' ∧ (Sm p ∧ p.kind = 3 ∧ p.es.length ≤ 60 ∧ (td = true → M.Up M.cfS p.es)) := by
  refine (made_any lv rt hg L ar cap td w hv hL hk hh).mono ?_
  rintro e w' ⟨es, x, y, h1, h2, h3, h4, h5⟩
  exact ⟨_, x, y, h1, h2, h3, h4, h5.sm lv rt 5 3 _ (by rw [List.length_take]; omega), rfl, h5.len, h5.up⟩
set_option maxHeartbeats 40000000 in
theorem back_any (lv rt : Int) (hg : List UInt8) (L : List M.En) (ar : Option Addr) (cap : Nat) (td : Bool) (kk vv : List UInt8) (mm : Bool) (w : World) (hv : Vals w (.slice ar L.length cap) L) (hL : L.length ≤ maxLen) (hk : ∀ e ∈ L, e.1.length ≤ maxLen ∧ e.2.1.length ≤ maxLen) (hh : hg.length ≤ maxLen) (hkk : kk.length ≤ maxLen) (hvv : vv.length ≤ maxLen) :
    Calls Try.prog 7 #[.agg #[.int .i64 lv, .int .i64 rt, .string (M.bs hg), .slice ar L.length cap, .bool td], .agg #[.string (M.bs kk), .string (M.bs vv), .bool mm]] w fun e w' => e = .returned (.bool true) ∧ Bel w w' := by
  have HK1 : Hid (kk.length ≤ 9223372036854775807 ∧ vv.length ≤ 9223372036854775807) := by unfold maxLen at *; exact ⟨by omega, by omega⟩
  have hlL : Hid (L.length ≤ maxLen) := hL
  obtain ⟨q1, q2⟩ := heap_two w (.cells #[.int .i64 lv, .int .i64 rt, .string (M.bs hg), .slice ar L.length cap, .bool td] 24) (.cells #[.string (M.bs kk), .string (M.bs vv), .bool mm] 26)
  have Q1 : Hid (Blk _ w.heap.size #[.int .i64 lv, .int .i64 rt, .string (M.bs hg), .slice ar L.length cap, .bool td] 24) := q1
  have Q2 : Hid (Blk _ (w.heap.size + 1) #[.string (M.bs kk), .string (M.bs vv), .bool mm] 26) := q2
  have HB0 : Hid (Bel w ((w.alloc (.cells #[.int .i64 lv, .int .i64 rt, .string (M.bs hg), .slice ar L.length cap, .bool td] 24)).alloc (.cells #[.string (M.bs kk), .string (M.bs vv), .bool mm] 26))) := Bel.al (Bel.al (Below.refl _ _) _) _
  have HMD := hid (fun W (hW : Bel w W) => made_page lv rt hg L ar cap true W (hv.bel hW) hL hk hh)
  clear q1 q2 hv hL hk hh hkk hvv
  go_enter Try.func7, Try.ntmps7
  go_wp2_with (first
    | (go_at_call 8; refine (speaks_any _).mono ?_; rintro e w1 ⟨rfl, hb1⟩; have Q1' := hid (Q1.out.below hb1 Q1.out.lt); have Q2' := hid (Q2.out.below hb1 Q2.out.lt); have HB1 := hid (HB0.out.tr hb1); clear hb1; have c4 : w1.cell? ⟨w.heap.size, 4, none⟩ = some (.bool td) := (by rw [Q1'.out.cell]; rfl); have f4 := Q1'.out.frozen 4; obtain ⟨w2, Q3, E3, B3, HW2⟩ := tidy_set Q1'.out Q2'.out HB1.out)
    | (refine store1 rfl 4 _ _ rfl w.heap.size 4 (.bool true) rfl rfl _ c4 f4 info4 rfl w2 HW2.out ?_; clear c4 f4; obtain ⟨r0, r1, r2, r3, r4⟩ := blk_cells5 Q3.out))
  have Z3 := hid E3.out.lt
  clear Q1 Q2 HB0 Q1' Q2' HB1 HW2
  go_wp2_with fail
  refine (HMD.out _ B3.out).mono ?_
  rintro e w3 ⟨p, x, y, rfl, ox, oy, k3, hsm, hkind, hlen, hup⟩
  obtain ⟨a, c, rfl⟩ := row_form ox
  obtain ⟨a2, c2, rfl⟩ := row_form oy
  have HS := hid hsm
  have HU := hid (hup (by trivial))
  have hsz : w.heap.size + 1 + 1 ≤ w2.heap.size := Z3.out
  have T4 := hid (KB.start (own_base (base' := w.heap.size + 1 + 1) ox hsz) (base43 (base' := w.heap.size + 1 + 1) oy hsz) (B3.out.tr k3) (Nat.lt_of_lt_of_le Z3.out k3.size))
  have kA : Bel w3 ((w3.alloc (.cells #[.int .i64 p.lsn, .int .i64 p.kind, .int .i64 p.level, .int .i64 p.right, .string (M.bs p.high), .slice a p.es.length c] 30)).alloc (.cells #[.int .i64 p.lsn, .int .i64 p.kind, .int .i64 p.level, .int .i64 p.right, .string (M.bs p.high), .slice a2 p.es.length c2] 33)) := Bel.al (Bel.al (Below.refl _ _) _) _
  have E4 := hid (E3.out.below (k3.tr kA) E3.out.lt)
  clear ox oy k3 hsm hup kA r0 r1 r2 r3 r4 Q3 E3 B3 HMD Z3 hsz
  have HRT := hid (right_any p (.slice a p.es.length c) _ HS.out (own_vs T4.out.ox) hkind)
  clear hkind
  obtain ⟨ga, hga⟩ : ∃ ga, ga = w3.heap.size := ⟨_, rfl⟩
  rw [← hga] at T4
  obtain ⟨t0, t1, t2, t3, t4, t5⟩ := blk_cells T4.out.a
  go_wp2_with fail
  rw [← hga]
  generalize (w3.alloc (.cells #[.int .i64 p.lsn, .int .i64 p.kind, .int .i64 p.level, .int .i64 p.right, .string (M.bs p.high), .slice a p.es.length c] 30)).alloc (.cells #[.int .i64 p.lsn, .int .i64 p.kind, .int .i64 p.level, .int .i64 p.right, .string (M.bs p.high), .slice a2 p.es.length c2] 33) = w4 at *
  clear hga t0 t1 t2 t3 t4 t5
  refine HRT.out.mono ?_
  rintro e w5 ⟨rfl, k5⟩
  have T5 := hid (T4.out.bel k5)
  have E5 := hid (E4.out.below k5 E4.out.lt)
  clear k5 T4 E4 HRT
  cases hr : M.right p with
  | false =>
    go_wp2_with fail
    go_ret
    exact ⟨rfl, T5.out.below⟩
  | true =>
    clear hr
    go_wp2_with fail
    have HE6 := E5
    have T6 := T5
    clear E5 T5
    generalize w5 = w6 at *
    refine wp_last fun KL hKL => ?_
    have HL := hid hKL
    clear hKL
    have hzk : (M.bs kk).size = kk.length := M.bs_size _
    have hzv : (M.bs vv).size = vv.length := M.bs_size _
    have cek := cutN kk 80
    have cev := cutN vv 120
    obtain ⟨nk, hnk, hnk'⟩ : ∃ nk : Nat, min (kk.length : Int) 80 = (nk : Int) ∧ nk ≤ kk.length := ⟨min kk.length 80, by omega, by omega⟩
    obtain ⟨nv, hnv, hnv'⟩ : ∃ nv : Nat, min (vv.length : Int) 120 = (nv : Int) ∧ nv ≤ vv.length := ⟨min vv.length 120, by omega, by omega⟩
    rw [show ((80 : Nat) : Int) = 80 from rfl, hnk, Int.toNat_natCast] at cek
    rw [show ((120 : Nat) : Int) = 120 from rfl, hnv, Int.toNat_natCast] at cev
    obtain ⟨hlk, hlv⟩ := HK1.out
    have HXK : Hid ((kk.take 80).length ≤ 80) := by show _ ≤ _; rw [List.length_take]; omega
    have HXV : Hid ((vv.take 120).length ≤ 120) := by show _ ≤ _; rw [List.length_take]; omega
    generalize kk.take 80 = xk at *
    generalize vv.take 120 = xv at *
    refine wp_join (fun a => ((((((((((((((((a.put (some 29) (.pointer (some ⟨w.heap.size + 1, 0, none⟩))).put (some 30) (.string (M.bs kk))).put (some 31) (.pointer (some ⟨w.heap.size + 1, 0, none⟩))).put (some 32) (.string (M.bs kk))).put (some 33) (.int .i64 (kk.length : Nat))).put (some 34) (.int .i64 (nk : Nat))).put (some 35) (.string (M.bs xk))).put (some 36) (.pointer (some ⟨w.heap.size + 1, 1, none⟩))).put (some 37) (.string (M.bs vv))).put (some 38) (.pointer (some ⟨w.heap.size + 1, 1, none⟩))).put (some 39) (.string (M.bs vv))).put (some 40) (.int .i64 (vv.length : Nat))).put (some 41) (.int .i64 (nv : Nat))).put (some 42) (.string (M.bs xv))).put (some 43) (.pointer (some ⟨w.heap.size + 1, 0, none⟩))).put (some 44) (.pointer (some ⟨w.heap.size + 1, 1, none⟩)))) (fun W => Blk W (w.heap.size + 1) #[.string (M.bs xk), .string (M.bs xv), .bool mm] 26 ∧ KB w W ga p (.slice a p.es.length c) (.slice a2 p.es.length c2)) ?_ ?_
    · refine region_until (S := fun W : World => W.cell? ⟨w.heap.size + 1, 1, none⟩ = some (.string (M.bs vv))) (m := 17) (by kernel_rfl) ?_
      have E7 : Hid (Blk w6.drew (w.heap.size + 1) #[.string (M.bs kk), .string (M.bs vv), .bool mm] 26) := HE6.out
      have T7 := hid (T6.out.bel (Bel.dr (Below.refl _ _)))
      generalize w6.drew = w7 at *
      have hS : w7.cell? ⟨w.heap.size + 1, 1, none⟩ = some (.string (M.bs vv)) := by rw [E7.out.cell]; rfl
      have s0 : w7.cell? ⟨w.heap.size + 1, 0, none⟩ = some (.string (M.bs kk)) := by rw [E7.out.cell]; rfl
      refine take_next (i := 0) (.pointer (some ⟨w.heap.size + 1, 0, none⟩)) [1, 6, 15, 17] (by kernel_rfl) (by kernel_rfl) rfl (by kernel_rfl) (by kernel_rfl) (by kernel_rfl) (by kernel_rfl) (fun _ _ _ h => absurd h.1 (by simp)) (Or.inl ⟨by rfl, fun w' hSw => by go_simp⟩) hS ?_
      try simp only [Act.put]
      refine take_next (i := 2) (.pointer (some ⟨w.heap.size + 1, 0, none⟩)) [3, 4, 5, 6, 15, 17] (by kernel_rfl) (by kernel_rfl) rfl (by kernel_rfl) (by kernel_rfl) (by kernel_rfl) (by kernel_rfl) (fun _ _ _ h => absurd h.1 (by simp)) (Or.inl ⟨by rfl, fun w' hSw => by go_simp⟩) hS ?_
      try simp only [Act.put]
      refine take_next (i := 7) (.pointer (some ⟨w.heap.size + 1, 1, none⟩)) [8, 13, 17] (by kernel_rfl) (by kernel_rfl) rfl (by kernel_rfl) (by kernel_rfl) (by kernel_rfl) (by kernel_rfl) (fun _ _ _ h => absurd h.1 (by simp)) (Or.inl ⟨by rfl, fun w' hSw => by go_simp⟩) hS ?_
      try simp only [Act.put]
      refine take_next (i := 8) (.string (M.bs vv)) [13, 17] (by kernel_rfl) (by kernel_rfl) rfl (by kernel_rfl) (by kernel_rfl) (by kernel_rfl) (by kernel_rfl) (fun _ _ _ h => absurd h.1 (by simp)) (Or.inl ⟨by rfl, fun w' hSw => by go_simp⟩) hS ?_
      try simp only [Act.put]
      refine take_next (i := 9) (.pointer (some ⟨w.heap.size + 1, 1, none⟩)) [10, 11, 12, 13, 17] (by kernel_rfl) (by kernel_rfl) rfl (by kernel_rfl) (by kernel_rfl) (by kernel_rfl) (by kernel_rfl) (fun _ _ _ h => absurd h.1 (by simp)) (Or.inl ⟨by rfl, fun w' hSw => by go_simp⟩) hS ?_
      try simp only [Act.put]
      refine take_next (i := 10) (.string (M.bs vv)) [11, 12, 13, 17] (by kernel_rfl) (by kernel_rfl) rfl (by kernel_rfl) (by kernel_rfl) (by kernel_rfl) (by kernel_rfl) (fun _ _ _ h => absurd h.1 (by simp)) (Or.inl ⟨by rfl, fun w' hSw => by go_simp⟩) hS ?_
      try simp only [Act.put]
      refine take_next (i := 11) (.int .i64 (vv.length : Nat)) [12, 13, 17] (by kernel_rfl) (by kernel_rfl) rfl (by kernel_rfl) (by kernel_rfl) (by kernel_rfl) (by kernel_rfl) (fun _ _ _ h => absurd h.1 (by simp)) (Or.inl ⟨by rfl, fun w' hSw => by go_simp⟩) hS ?_
      try simp only [Act.put]
      refine take_next (i := 12) (.int .i64 (nv : Nat)) [13, 17] (by kernel_rfl) (by kernel_rfl) rfl (by kernel_rfl) (by kernel_rfl) (by kernel_rfl) (by kernel_rfl) (fun _ _ _ h => absurd h.1 (by simp)) (Or.inl ⟨by rfl, fun w' hSw => by go_simp⟩) hS ?_
      try simp only [Act.put]
      refine take_next (i := 13) (.string (M.bs xv)) [17] (by kernel_rfl) (by kernel_rfl) rfl (by kernel_rfl) (by kernel_rfl) (by kernel_rfl) (by kernel_rfl) (fun _ _ _ h => absurd h.1 (by simp)) (Or.inl ⟨by rfl, fun w' hSw => by go_simp⟩) hS ?_
      try simp only [Act.put]
      refine until_ready (rs := [1, 3]) (by kernel_rfl) (by simp) ?_
      intro jj hjj
      simp only [List.mem_cons, List.not_mem_nil, or_false] at hjj
      rcases hjj with rfl | rfl
      · skip
        refine wpOp_step rfl (fun KX hKX => ?_)
        have HX := hid hKX
        clear hKX
        go_simp
        refine HX.out _ _ ⟨fun _ => hS, ?_⟩
        clear HX
        try simp only [Act.put]
        refine until_step (j := 3) (by kernel_rfl) rfl (by kernel_rfl) (fun KX hKX => ?_)
        have HX := hid hKX
        clear hKX
        go_simp
        refine HX.out _ _ ⟨fun _ => hS, ?_⟩
        clear HX
        try simp only [Act.put]
        refine until_step (j := 4) (by kernel_rfl) rfl (by kernel_rfl) (fun KX hKX => ?_)
        have HX := hid hKX
        clear hKX
        go_simp
        refine HX.out _ _ ⟨fun _ => hS, ?_⟩
        clear HX
        try simp only [Act.put]
        refine until_step (j := 5) (by kernel_rfl) rfl (by kernel_rfl) (fun KX hKX => ?_)
        have HX := hid hKX
        clear hKX
        go_simp
        refine HX.out _ _ ⟨fun _ => hS, ?_⟩
        clear HX
        try simp only [Act.put]
        refine until_step (j := 6) (by kernel_rfl) rfl (by kernel_rfl) (fun KX hKX => ?_)
        have HX := hid hKX
        clear hKX
        go_simp
        refine HX.out _ _ ⟨fun _ => hS, ?_⟩
        clear HX
        try simp only [Act.put]
        refine until_step (j := 14) (by kernel_rfl) rfl (by kernel_rfl) (fun KX hKX => ?_)
        have HX := hid hKX
        clear hKX
        go_simp
        refine HX.out _ _ ⟨fun _ => hS, ?_⟩
        clear HX
        try simp only [Act.put]
        have z0 := E7.out.frozen 0
        refine until_step (j := 15) (by kernel_rfl) rfl (by kernel_rfl) (fun KX hKX => ?_)
        have HX := hid hKX
        clear hKX
        go_simp
        have V1 : Hid (Blk (w7.setCell ⟨w.heap.size + 1, 0, none⟩ (.string (M.bs xk))) (w.heap.size + 1) #[.string (M.bs xk), .string (M.bs vv), .bool mm] 26) := hid (by
          have z := E7.out.set 0 (.string (M.bs xk))
          simpa using z)
        have VT := hid (T7.out.other (B := w.heap.size + 1) rfl trivial 0 (.string (M.bs xk)))
        have hS' : (w7.setCell ⟨w.heap.size + 1, 0, none⟩ (.string (M.bs xk))).cell? ⟨w.heap.size + 1, 1, none⟩ = some (.string (M.bs vv)) := by rw [V1.out.cell]; rfl
        refine HX.out _ _ ⟨fun _ => hS', ?_⟩
        clear HX E7 T7 z0 s0 hS
        generalize w7.setCell ⟨w.heap.size + 1, 0, none⟩ (.string (M.bs xk)) = w7b at *
        try simp only [Act.put]
        have z1 := V1.out.frozen 1
        refine until_step (j := 16) (by kernel_rfl) rfl (by kernel_rfl) (fun KX hKX => ?_)
        have HX := hid hKX
        clear hKX
        go_simp
        refine HX.out _ _ ⟨fun _ => hS', ?_⟩
        clear HX
        try simp only [Act.put]
        refine until_step (j := 17) (by kernel_rfl) rfl (by kernel_rfl) (fun KX hKX => ?_)
        have HX := hid hKX
        clear hKX
        go_simp
        have U1 : Hid (Blk (w7b.setCell ⟨w.heap.size + 1, 1, none⟩ (.string (M.bs xv))) (w.heap.size + 1) #[.string (M.bs xk), .string (M.bs xv), .bool mm] 26) := hid (by
          have z := V1.out.set 1 (.string (M.bs xv))
          simpa using z)
        have UT := hid (VT.out.other (B := w.heap.size + 1) rfl trivial 1 (.string (M.bs xv)))
        refine HX.out _ _ ⟨(fun h => by cases (Eq.trans (Eq.symm (show _ = true by kernel_rfl)) h)), ?_⟩
        clear HX
        refine until_done (by kernel_rfl) ⟨rfl, ?_⟩ _
        exact ⟨by kernel_rfl, U1.out, UT.out⟩
      · skip
        refine wpOp_step rfl (fun KX hKX => ?_)
        have HX := hid hKX
        clear hKX
        go_simp
        refine HX.out _ _ ⟨fun _ => hS, ?_⟩
        clear HX
        try simp only [Act.put]
        refine until_ready (rs := [1, 4]) (by kernel_rfl) (by simp) ?_
        intro jj hjj
        simp only [List.mem_cons, List.not_mem_nil, or_false] at hjj
        rcases hjj with rfl | rfl
        · skip
          refine wpOp_step rfl (fun KX hKX => ?_)
          have HX := hid hKX
          clear hKX
          go_simp
          refine HX.out _ _ ⟨fun _ => hS, ?_⟩
          clear HX
          try simp only [Act.put]
          refine until_step (j := 4) (by kernel_rfl) rfl (by kernel_rfl) (fun KX hKX => ?_)
          have HX := hid hKX
          clear hKX
          go_simp
          refine HX.out _ _ ⟨fun _ => hS, ?_⟩
          clear HX
          try simp only [Act.put]
          refine until_step (j := 5) (by kernel_rfl) rfl (by kernel_rfl) (fun KX hKX => ?_)
          have HX := hid hKX
          clear hKX
          go_simp
          refine HX.out _ _ ⟨fun _ => hS, ?_⟩
          clear HX
          try simp only [Act.put]
          refine until_step (j := 6) (by kernel_rfl) rfl (by kernel_rfl) (fun KX hKX => ?_)
          have HX := hid hKX
          clear hKX
          go_simp
          refine HX.out _ _ ⟨fun _ => hS, ?_⟩
          clear HX
          try simp only [Act.put]
          refine until_step (j := 14) (by kernel_rfl) rfl (by kernel_rfl) (fun KX hKX => ?_)
          have HX := hid hKX
          clear hKX
          go_simp
          refine HX.out _ _ ⟨fun _ => hS, ?_⟩
          clear HX
          try simp only [Act.put]
          have z0 := E7.out.frozen 0
          refine until_step (j := 15) (by kernel_rfl) rfl (by kernel_rfl) (fun KX hKX => ?_)
          have HX := hid hKX
          clear hKX
          go_simp
          have V1 : Hid (Blk (w7.setCell ⟨w.heap.size + 1, 0, none⟩ (.string (M.bs xk))) (w.heap.size + 1) #[.string (M.bs xk), .string (M.bs vv), .bool mm] 26) := hid (by
            have z := E7.out.set 0 (.string (M.bs xk))
            simpa using z)
          have VT := hid (T7.out.other (B := w.heap.size + 1) rfl trivial 0 (.string (M.bs xk)))
          have hS' : (w7.setCell ⟨w.heap.size + 1, 0, none⟩ (.string (M.bs xk))).cell? ⟨w.heap.size + 1, 1, none⟩ = some (.string (M.bs vv)) := by rw [V1.out.cell]; rfl
          refine HX.out _ _ ⟨fun _ => hS', ?_⟩
          clear HX E7 T7 z0 s0 hS
          generalize w7.setCell ⟨w.heap.size + 1, 0, none⟩ (.string (M.bs xk)) = w7b at *
          try simp only [Act.put]
          have z1 := V1.out.frozen 1
          refine until_step (j := 16) (by kernel_rfl) rfl (by kernel_rfl) (fun KX hKX => ?_)
          have HX := hid hKX
          clear hKX
          go_simp
          refine HX.out _ _ ⟨fun _ => hS', ?_⟩
          clear HX
          try simp only [Act.put]
          refine until_step (j := 17) (by kernel_rfl) rfl (by kernel_rfl) (fun KX hKX => ?_)
          have HX := hid hKX
          clear hKX
          go_simp
          have U1 : Hid (Blk (w7b.setCell ⟨w.heap.size + 1, 1, none⟩ (.string (M.bs xv))) (w.heap.size + 1) #[.string (M.bs xk), .string (M.bs xv), .bool mm] 26) := hid (by
            have z := V1.out.set 1 (.string (M.bs xv))
            simpa using z)
          have UT := hid (VT.out.other (B := w.heap.size + 1) rfl trivial 1 (.string (M.bs xv)))
          refine HX.out _ _ ⟨(fun h => by cases (Eq.trans (Eq.symm (show _ = true by kernel_rfl)) h)), ?_⟩
          clear HX
          refine until_done (by kernel_rfl) ⟨rfl, ?_⟩ _
          exact ⟨by kernel_rfl, U1.out, UT.out⟩
        · skip
          refine wpOp_step rfl (fun KX hKX => ?_)
          have HX := hid hKX
          clear hKX
          go_simp
          refine HX.out _ _ ⟨fun _ => hS, ?_⟩
          clear HX
          try simp only [Act.put]
          refine until_ready (rs := [1, 5]) (by kernel_rfl) (by simp) ?_
          intro jj hjj
          simp only [List.mem_cons, List.not_mem_nil, or_false] at hjj
          rcases hjj with rfl | rfl
          · skip
            refine wpOp_step rfl (fun KX hKX => ?_)
            have HX := hid hKX
            clear hKX
            go_simp
            refine HX.out _ _ ⟨fun _ => hS, ?_⟩
            clear HX
            try simp only [Act.put]
            refine until_step (j := 5) (by kernel_rfl) rfl (by kernel_rfl) (fun KX hKX => ?_)
            have HX := hid hKX
            clear hKX
            go_simp
            refine HX.out _ _ ⟨fun _ => hS, ?_⟩
            clear HX
            try simp only [Act.put]
            refine until_step (j := 6) (by kernel_rfl) rfl (by kernel_rfl) (fun KX hKX => ?_)
            have HX := hid hKX
            clear hKX
            go_simp
            refine HX.out _ _ ⟨fun _ => hS, ?_⟩
            clear HX
            try simp only [Act.put]
            refine until_step (j := 14) (by kernel_rfl) rfl (by kernel_rfl) (fun KX hKX => ?_)
            have HX := hid hKX
            clear hKX
            go_simp
            refine HX.out _ _ ⟨fun _ => hS, ?_⟩
            clear HX
            try simp only [Act.put]
            have z0 := E7.out.frozen 0
            refine until_step (j := 15) (by kernel_rfl) rfl (by kernel_rfl) (fun KX hKX => ?_)
            have HX := hid hKX
            clear hKX
            go_simp
            have V1 : Hid (Blk (w7.setCell ⟨w.heap.size + 1, 0, none⟩ (.string (M.bs xk))) (w.heap.size + 1) #[.string (M.bs xk), .string (M.bs vv), .bool mm] 26) := hid (by
              have z := E7.out.set 0 (.string (M.bs xk))
              simpa using z)
            have VT := hid (T7.out.other (B := w.heap.size + 1) rfl trivial 0 (.string (M.bs xk)))
            have hS' : (w7.setCell ⟨w.heap.size + 1, 0, none⟩ (.string (M.bs xk))).cell? ⟨w.heap.size + 1, 1, none⟩ = some (.string (M.bs vv)) := by rw [V1.out.cell]; rfl
            refine HX.out _ _ ⟨fun _ => hS', ?_⟩
            clear HX E7 T7 z0 s0 hS
            generalize w7.setCell ⟨w.heap.size + 1, 0, none⟩ (.string (M.bs xk)) = w7b at *
            try simp only [Act.put]
            have z1 := V1.out.frozen 1
            refine until_step (j := 16) (by kernel_rfl) rfl (by kernel_rfl) (fun KX hKX => ?_)
            have HX := hid hKX
            clear hKX
            go_simp
            refine HX.out _ _ ⟨fun _ => hS', ?_⟩
            clear HX
            try simp only [Act.put]
            refine until_step (j := 17) (by kernel_rfl) rfl (by kernel_rfl) (fun KX hKX => ?_)
            have HX := hid hKX
            clear hKX
            go_simp
            have U1 : Hid (Blk (w7b.setCell ⟨w.heap.size + 1, 1, none⟩ (.string (M.bs xv))) (w.heap.size + 1) #[.string (M.bs xk), .string (M.bs xv), .bool mm] 26) := hid (by
              have z := V1.out.set 1 (.string (M.bs xv))
              simpa using z)
            have UT := hid (VT.out.other (B := w.heap.size + 1) rfl trivial 1 (.string (M.bs xv)))
            refine HX.out _ _ ⟨(fun h => by cases (Eq.trans (Eq.symm (show _ = true by kernel_rfl)) h)), ?_⟩
            clear HX
            refine until_done (by kernel_rfl) ⟨rfl, ?_⟩ _
            exact ⟨by kernel_rfl, U1.out, UT.out⟩
          · skip
            refine wpOp_step rfl (fun KX hKX => ?_)
            have HX := hid hKX
            clear hKX
            go_simp
            refine HX.out _ _ ⟨fun _ => hS, ?_⟩
            clear HX
            try simp only [Act.put]
            refine until_step (j := 1) (by kernel_rfl) rfl (by kernel_rfl) (fun KX hKX => ?_)
            have HX := hid hKX
            clear hKX
            go_simp
            refine HX.out _ _ ⟨fun _ => hS, ?_⟩
            clear HX
            try simp only [Act.put]
            refine until_step (j := 6) (by kernel_rfl) rfl (by kernel_rfl) (fun KX hKX => ?_)
            have HX := hid hKX
            clear hKX
            go_simp
            refine HX.out _ _ ⟨fun _ => hS, ?_⟩
            clear HX
            try simp only [Act.put]
            refine until_step (j := 14) (by kernel_rfl) rfl (by kernel_rfl) (fun KX hKX => ?_)
            have HX := hid hKX
            clear hKX
            go_simp
            refine HX.out _ _ ⟨fun _ => hS, ?_⟩
            clear HX
            try simp only [Act.put]
            have z0 := E7.out.frozen 0
            refine until_step (j := 15) (by kernel_rfl) rfl (by kernel_rfl) (fun KX hKX => ?_)
            have HX := hid hKX
            clear hKX
            go_simp
            have V1 : Hid (Blk (w7.setCell ⟨w.heap.size + 1, 0, none⟩ (.string (M.bs xk))) (w.heap.size + 1) #[.string (M.bs xk), .string (M.bs vv), .bool mm] 26) := hid (by
              have z := E7.out.set 0 (.string (M.bs xk))
              simpa using z)
            have VT := hid (T7.out.other (B := w.heap.size + 1) rfl trivial 0 (.string (M.bs xk)))
            have hS' : (w7.setCell ⟨w.heap.size + 1, 0, none⟩ (.string (M.bs xk))).cell? ⟨w.heap.size + 1, 1, none⟩ = some (.string (M.bs vv)) := by rw [V1.out.cell]; rfl
            refine HX.out _ _ ⟨fun _ => hS', ?_⟩
            clear HX E7 T7 z0 s0 hS
            generalize w7.setCell ⟨w.heap.size + 1, 0, none⟩ (.string (M.bs xk)) = w7b at *
            try simp only [Act.put]
            have z1 := V1.out.frozen 1
            refine until_step (j := 16) (by kernel_rfl) rfl (by kernel_rfl) (fun KX hKX => ?_)
            have HX := hid hKX
            clear hKX
            go_simp
            refine HX.out _ _ ⟨fun _ => hS', ?_⟩
            clear HX
            try simp only [Act.put]
            refine until_step (j := 17) (by kernel_rfl) rfl (by kernel_rfl) (fun KX hKX => ?_)
            have HX := hid hKX
            clear hKX
            go_simp
            have U1 : Hid (Blk (w7b.setCell ⟨w.heap.size + 1, 1, none⟩ (.string (M.bs xv))) (w.heap.size + 1) #[.string (M.bs xk), .string (M.bs xv), .bool mm] 26) := hid (by
              have z := V1.out.set 1 (.string (M.bs xv))
              simpa using z)
            have UT := hid (VT.out.other (B := w.heap.size + 1) rfl trivial 1 (.string (M.bs xv)))
            refine HX.out _ _ ⟨(fun h => by cases (Eq.trans (Eq.symm (show _ = true by kernel_rfl)) h)), ?_⟩
            clear HX
            refine until_done (by kernel_rfl) ⟨rfl, ?_⟩ _
            exact ⟨by kernel_rfl, U1.out, UT.out⟩
    clear hzk hzv cek cev hnk hnv hlk hlv HE6 T6
    rintro w8 ⟨hE8, hT8⟩
    have E8 := hid hE8
    have T8 := hid hT8
    clear hE8 hT8
    refine HL.out _ _ ?_
    clear HL
    try simp only [Act.put]
    by_cases hE : M.insE p (xk, xv, mm) = 0
    · obtain ⟨r, hsr, hfr, hins, hrem⟩ := back_step HS.out (by omega) HU.out xk xv mm hE
      have HINS := hid (hins (.slice a p.es.length c) w8 (own_vs T8.out.ox))
      have HREM := hid hrem
      have HSR := hid hsr
      have HFR := hid hfr
      clear hins hrem hsr hfr hE
      obtain ⟨k0, k1, k2⟩ := blk_cells3 E8.out
      obtain ⟨t0, t1, t2, t3, t4, t5⟩ := blk_cells T8.out.a
      go_wp2_with fail
      refine HINS.out.mono ?_
      rintro e w9 ⟨x9, rfl, o9, k9⟩
      obtain ⟨a9, c9, rfl⟩ := row_form o9
      have kB : Bel w9 (w9.alloc (.cells #[.int .i64 r.lsn, .int .i64 r.kind, .int .i64 r.level, .int .i64 r.right, .string (M.bs r.high), .slice a9 r.es.length c9] 30)) := Bel.al (Below.refl _ _) _
      have T10 := hid (T8.out.bel (k9.tr kB))
      have E10 := hid (E8.out.below (k9.tr kB) E8.out.lt)
      have O10 := hid (own_bel o9 kB)
      obtain ⟨g7, hg7⟩ : ∃ g, g = w9.heap.size := ⟨_, rfl⟩
      have N10 : Hid (Blk (w9.alloc (.cells #[.int .i64 r.lsn, .int .i64 r.kind, .int .i64 r.level, .int .i64 r.right, .string (M.bs r.high), .slice a9 r.es.length c9] 30)) g7 #[.int .i64 r.lsn, .int .i64 r.kind, .int .i64 r.level, .int .i64 r.right, .string (M.bs r.high), .slice a9 r.es.length c9] 30) := by rw [hg7]; exact Blk.new _ _ _
      clear t0 t1 t2 t3 t4 t5 k0 k1 k2 k9 kB o9 T8 E8 HINS
      obtain ⟨k0, k1, k2⟩ := blk_cells3 E10.out
      obtain ⟨t0, t1, t2, t3, t4, t5⟩ := blk_cells N10.out
      go_wp2_with fail
      rw [← hg7]
      generalize w9.alloc (.cells #[.int .i64 r.lsn, .int .i64 r.kind, .int .i64 r.level, .int .i64 r.right, .string (M.bs r.high), .slice a9 r.es.length c9] 30) = w10 at *
      clear hg7
      refine (HREM.out _ w10 (own_vs O10.out)).mono ?_
      rintro e w11 ⟨x11, rfl, o11, k11⟩
      obtain ⟨a11, c11, rfl⟩ := row_form o11
      have kB : Bel w11 (w11.alloc (.cells #[.int .i64 p.lsn, .int .i64 p.kind, .int .i64 p.level, .int .i64 p.right, .string (M.bs p.high), .slice a11 p.es.length c11] 30)) := Bel.al (Below.refl _ _) _
      have T12 := hid (T10.out.bel (k11.tr kB))
      have E12 := hid (E10.out.below (k11.tr kB) E10.out.lt)
      have O12 := hid (own_bel O10.out (k11.tr kB))
      have N12 := hid (N10.out.below (k11.tr kB) N10.out.lt)
      have P12 := hid (own_bel o11 kB)
      obtain ⟨g9, hg9⟩ : ∃ g, g = w11.heap.size := ⟨_, rfl⟩
      have M12 : Hid (Blk (w11.alloc (.cells #[.int .i64 p.lsn, .int .i64 p.kind, .int .i64 p.level, .int .i64 p.right, .string (M.bs p.high), .slice a11 p.es.length c11] 30)) g9 #[.int .i64 p.lsn, .int .i64 p.kind, .int .i64 p.level, .int .i64 p.right, .string (M.bs p.high), .slice a11 p.es.length c11] 30) := by rw [hg9]; exact Blk.new _ _ _
      clear t0 t1 t2 t3 t4 t5 k0 k1 k2 k11 kB o11 T10 E10 O10 N10 HREM
      go_wp2_with fail
      rw [← hg9]
      generalize w11.alloc (.cells #[.int .i64 p.lsn, .int .i64 p.kind, .int .i64 p.level, .int .i64 p.right, .string (M.bs p.high), .slice a11 p.es.length c11] 30) = w12 at *
      clear hg9
      refine wp_last fun KL hKL => ?_
      have HL := hid hKL
      clear hKL
      refine region_until (S := fun W : World => Blk W g9 #[.int .i64 p.lsn, .int .i64 p.kind, .int .i64 p.level, .int .i64 p.right, .string (M.bs p.high), .slice a11 p.es.length c11] 30 ∧ Blk W (ga + 1) #[.int .i64 p.lsn, .int .i64 p.kind, .int .i64 p.level, .int .i64 p.right, .string (M.bs p.high), .slice a2 p.es.length c2] 33 ∧ Blk W g7 #[.int .i64 r.lsn, .int .i64 r.kind, .int .i64 r.level, .int .i64 r.right, .string (M.bs r.high), .slice a9 r.es.length c9] 30 ∧ Blk W ga #[.int .i64 p.lsn, .int .i64 p.kind, .int .i64 p.level, .int .i64 p.right, .string (M.bs p.high), .slice a p.es.length c] 30 ∧ Blk W (w.heap.size + 1) #[.string (M.bs xk), .string (M.bs xv), .bool mm] 26) (m := 17) (by kernel_rfl) ?_
      have kD : Bel w12 w12.drew := Bel.dr (Below.refl _ _)
      have T13 := hid (T12.out.bel kD)
      have E13 := hid (E12.out.below kD E12.out.lt)
      have N7 := hid (N12.out.below kD N12.out.lt)
      have N9 := hid (M12.out.below kD M12.out.lt)
      have O7 := hid (own_bel O12.out kD)
      have O9' := hid (own_bel P12.out kD)
      clear kD T12 E12 N12 M12 O12 P12
      generalize w12.drew = w13 at *
      have hS := And.intro N9.out (And.intro T13.out.b (And.intro N7.out (And.intro T13.out.a E13.out)))
      have SB := hid (show ∀ W W', Bel W W' → (fun W : World => Blk W g9 #[.int .i64 p.lsn, .int .i64 p.kind, .int .i64 p.level, .int .i64 p.right, .string (M.bs p.high), .slice a11 p.es.length c11] 30 ∧ Blk W (ga + 1) #[.int .i64 p.lsn, .int .i64 p.kind, .int .i64 p.level, .int .i64 p.right, .string (M.bs p.high), .slice a2 p.es.length c2] 33 ∧ Blk W g7 #[.int .i64 r.lsn, .int .i64 r.kind, .int .i64 r.level, .int .i64 r.right, .string (M.bs r.high), .slice a9 r.es.length c9] 30 ∧ Blk W ga #[.int .i64 p.lsn, .int .i64 p.kind, .int .i64 p.level, .int .i64 p.right, .string (M.bs p.high), .slice a p.es.length c] 30 ∧ Blk W (w.heap.size + 1) #[.string (M.bs xk), .string (M.bs xv), .bool mm] 26) W → (fun W : World => Blk W g9 #[.int .i64 p.lsn, .int .i64 p.kind, .int .i64 p.level, .int .i64 p.right, .string (M.bs p.high), .slice a11 p.es.length c11] 30 ∧ Blk W (ga + 1) #[.int .i64 p.lsn, .int .i64 p.kind, .int .i64 p.level, .int .i64 p.right, .string (M.bs p.high), .slice a2 p.es.length c2] 33 ∧ Blk W g7 #[.int .i64 r.lsn, .int .i64 r.kind, .int .i64 r.level, .int .i64 r.right, .string (M.bs r.high), .slice a9 r.es.length c9] 30 ∧ Blk W ga #[.int .i64 p.lsn, .int .i64 p.kind, .int .i64 p.level, .int .i64 p.right, .string (M.bs p.high), .slice a p.es.length c] 30 ∧ Blk W (w.heap.size + 1) #[.string (M.bs xk), .string (M.bs xv), .bool mm] 26) W' from fun W W' k h => ⟨h.1.below k h.1.lt, h.2.1.below k h.2.1.lt, h.2.2.1.below k h.2.2.1.lt, h.2.2.2.1.below k h.2.2.2.1.lt, h.2.2.2.2.below k h.2.2.2.2.lt⟩)
      have HSM := hid (same_any p (.slice a11 p.es.length c11) (.slice a2 p.es.length c2) w13 HS.out (own_vs O9'.out).vals (own_vs43 T13.out.oy).vals)
      have HF1 := hid (fun W (hW : Bel w13 W) => free_any r (.slice a9 r.es.length c9) W HSR.out (own_vs (own_bel O7.out hW)).vals)
      have HF2 := hid (fun W (hW : Bel w13 W) => free_any p (.slice a p.es.length c) W HS.out (own_vs (T13.out.bel hW).ox).vals)
      have hfp := free_bounds HS.out
      have hze : M.szE (xk, xv, mm) ≤ 203 := by have h1 := HXK.out; have h2 := HXV.out; simp only [M.szE]; omega
      have hwr : IntKind.i64.wrap (M.free p - (M.szE (xk, xv, mm) : Int)) = M.free p - (M.szE (xk, xv, mm) : Int) := by rw [IntKind.wrap_i64]; omega
      rw [HFR.out] at HF1
      refine until_step (j := 0) (by kernel_rfl) rfl (by kernel_rfl) (fun KX hKX => ?_)
      have HX := hid hKX
      clear hKX
      go_simp
      refine HX.out _ _ ⟨fun _ => hS, ?_⟩
      clear HX
      try simp only [Act.put]
      refine until_step (j := 1) (by kernel_rfl) rfl (by kernel_rfl) (fun KX hKX => ?_)
      have HX := hid hKX
      clear hKX
      go_simp
      refine HX.out _ _ ⟨fun _ => hS, ?_⟩
      clear HX
      try simp only [Act.put]
      refine until_step (j := 2) (by kernel_rfl) rfl (by kernel_rfl) (fun KX hKX => ?_)
      have HX := hid hKX
      clear hKX
      go_simp
      refine HX.out _ _ ⟨fun _ => hS, ?_⟩
      clear HX
      try simp only [Act.put]
      refine take_next (i := 3) (.agg #[.int .i64 p.lsn, .int .i64 p.kind, .int .i64 p.level, .int .i64 p.right, .string (M.bs p.high), .slice a11 p.es.length c11]) [5, 6, 7, 8, 17] (by kernel_rfl) (by kernel_rfl) rfl (by kernel_rfl) (by kernel_rfl) (by kernel_rfl) (by kernel_rfl) (fun _ _ _ h => absurd h.1 (by simp)) (Or.inl ⟨by kernel_rfl, fun w' hSw => by obtain ⟨s0, s1, s2, s3, s4, s5⟩ := blk_cells (hSw.1); go_simp⟩) hS ?_
      try simp only [Act.put]
      refine take_next (i := 4) (.agg #[.int .i64 p.lsn, .int .i64 p.kind, .int .i64 p.level, .int .i64 p.right, .string (M.bs p.high), .slice a2 p.es.length c2]) [5, 6, 7, 8, 17] (by kernel_rfl) (by kernel_rfl) rfl (by kernel_rfl) (by kernel_rfl) (by kernel_rfl) (by kernel_rfl) (fun _ _ _ h => absurd h.1 (by simp)) (Or.inl ⟨by kernel_rfl, fun w' hSw => by obtain ⟨s0, s1, s2, s3, s4, s5⟩ := blk_cells (hSw.2.1); go_simp⟩) hS ?_
      try simp only [Act.put]
      refine until_step (j := 5) (by kernel_rfl) rfl (by kernel_rfl) (fun KX hKX => ?_)
      have HX := hid hKX
      clear hKX
      go_simp
      refine HSM.out.mono ?_
      rintro e w14 ⟨rfl, k14⟩
      have hS := SB.out _ _ k14 hS
      refine HX.out _ _ ⟨fun _ => hS, ?_⟩
      clear HX
      try simp only [Act.put]
      refine until_step (j := 6) (by kernel_rfl) rfl (by kernel_rfl) (fun KX hKX => ?_)
      have HX := hid hKX
      clear hKX
      go_simp
      refine HX.out _ _ ⟨fun _ => hS, ?_⟩
      clear HX
      try simp only [Act.put]
      refine until_step (j := 7) (by kernel_rfl) rfl (by kernel_rfl) (fun KX hKX => ?_)
      have HX := hid hKX
      clear hKX
      go_simp
      refine HX.out _ _ ⟨fun _ => hS, ?_⟩
      clear HX
      try simp only [Act.put]
      refine until_step (j := 8) (by kernel_rfl) rfl (by kernel_rfl) (fun KX hKX => ?_)
      have HX := hid hKX
      clear hKX
      go_simp
      refine HX.out _ _ ⟨fun _ => hS, ?_⟩
      clear HX
      try simp only [Act.put]
      refine take_next (i := 9) (.agg #[.int .i64 r.lsn, .int .i64 r.kind, .int .i64 r.level, .int .i64 r.right, .string (M.bs r.high), .slice a9 r.es.length c9]) [10, 16, 17] (by kernel_rfl) (by kernel_rfl) rfl (by kernel_rfl) (by kernel_rfl) (by kernel_rfl) (by kernel_rfl) (fun _ _ _ h => absurd h.1 (by simp)) (Or.inl ⟨by kernel_rfl, fun w' hSw => by obtain ⟨s0, s1, s2, s3, s4, s5⟩ := blk_cells (hSw.2.2.1); go_simp⟩) hS ?_
      try simp only [Act.put]
      refine take_next (i := 11) (.agg #[.int .i64 p.lsn, .int .i64 p.kind, .int .i64 p.level, .int .i64 p.right, .string (M.bs p.high), .slice a p.es.length c]) [12, 15, 16, 17] (by kernel_rfl) (by kernel_rfl) rfl (by kernel_rfl) (by kernel_rfl) (by kernel_rfl) (by kernel_rfl) (fun _ _ _ h => absurd h.1 (by simp)) (Or.inl ⟨by kernel_rfl, fun w' hSw => by obtain ⟨s0, s1, s2, s3, s4, s5⟩ := blk_cells (hSw.2.2.2.1); go_simp⟩) hS ?_
      try simp only [Act.put]
      refine take_next (i := 13) (.agg #[.string (M.bs xk), .string (M.bs xv), .bool mm]) [14, 15, 16, 17] (by kernel_rfl) (by kernel_rfl) rfl (by kernel_rfl) (by kernel_rfl) (by kernel_rfl) (by kernel_rfl) (fun _ _ _ h => absurd h.1 (by simp)) (Or.inl ⟨by kernel_rfl, fun w' hSw => by obtain ⟨s0, s1, s2⟩ := blk_cells3 (hSw.2.2.2.2); go_simp⟩) hS ?_
      try simp only [Act.put]
      refine until_step (j := 10) (by kernel_rfl) rfl (by kernel_rfl) (fun KX hKX => ?_)
      have HX := hid hKX
      clear hKX
      go_simp
      refine (HF1.out _ k14).mono ?_
      rintro e w15 ⟨rfl, k15⟩
      have hS := SB.out _ _ k15 hS
      refine HX.out _ _ ⟨fun _ => hS, ?_⟩
      clear HX
      try simp only [Act.put]
      refine until_step (j := 12) (by kernel_rfl) rfl (by kernel_rfl) (fun KX hKX => ?_)
      have HX := hid hKX
      clear hKX
      go_simp
      refine (HF2.out _ (k14.tr k15)).mono ?_
      rintro e w16 ⟨rfl, k16⟩
      have hS := SB.out _ _ k16 hS
      refine HX.out _ _ ⟨fun _ => hS, ?_⟩
      clear HX
      try simp only [Act.put]
      refine until_step (j := 14) (by kernel_rfl) rfl (by kernel_rfl) (fun KX hKX => ?_)
      have HX := hid hKX
      clear hKX
      go_simp
      refine (size_any xk xv mm w16 (by have := HXK.out; omega) (by have := HXV.out; omega)).mono ?_
      rintro e w17 ⟨rfl, k17⟩
      have hS := SB.out _ _ k17 hS
      refine HX.out _ _ ⟨fun _ => hS, ?_⟩
      clear HX
      try simp only [Act.put]
      refine until_step (j := 15) (by kernel_rfl) rfl (by kernel_rfl) (fun KX hKX => ?_)
      have HX := hid hKX
      clear hKX
      go_simp
      refine HX.out _ _ ⟨fun _ => hS, ?_⟩
      clear HX
      try simp only [Act.put]
      refine until_step (j := 16) (by kernel_rfl) rfl (by kernel_rfl) (fun KX hKX => ?_)
      have HX := hid hKX
      clear hKX
      go_simp
      refine HX.out _ _ ⟨fun _ => hS, ?_⟩
      clear HX
      try simp only [Act.put]
      refine until_step (j := 17) (by kernel_rfl) rfl (by kernel_rfl) (fun KX hKX => ?_)
      have HX := hid hKX
      clear hKX
      go_simp
      refine HX.out _ _ ⟨(fun h => by cases (Eq.trans (Eq.symm (show _ = true by kernel_rfl)) h)), ?_⟩
      clear HX
      refine until_done (by kernel_rfl) ⟨rfl, ?_⟩ _
      refine HL.out _ _ ?_
      clear HL
      have k18 := ((k14.tr k15).tr k16).tr k17
      have T18 := hid (T13.out.bel k18)
      have E18 := hid (E13.out.below k18 E13.out.lt)
      clear hS SB HSM HF1 HF2 hfp hze hwr T13 E13 N7 N9 O7 O9' k14 k15 k16 k17 k18
      have T20 := T18
      have E20 := E18
      clear T18 E18
      generalize w17 = w20 at *
      have hfind := find_any p (.slice a p.es.length c) xk w20 HS.out (own_vs T20.out.ox).vals HU.out
      cases hh : M.has M.cfS p.es xk with
      | false =>
        rw [hh] at hfind
        have HF := hid hfind
        clear hfind
        obtain ⟨k0, k1, k2⟩ := blk_cells3 E20.out
        obtain ⟨t0, t1, t2, t3, t4, t5⟩ := blk_cells T20.out.a
        go_wp2_with fail
        refine HF.out.mono ?_
        rintro e w21 ⟨rfl, k21⟩
        go_wp2_with fail
        go_ret
        exact ⟨rfl, T20.out.below.tr k21⟩
      | true =>
        rw [hh] at hfind
        have hlt := M.pos_lt_of_has hh
        obtain ⟨bx, ox, hax, hrx⟩ : ∃ bx ox, a = some ⟨bx, ox, none⟩ ∧ Row3 w20 bx ox p.es := by
          rcases own_vs T20.out.ox with ⟨_, h0⟩ | ⟨b', off', cap', h, h1, h2, h3⟩
          · rw [h0] at hlt; simp at hlt
          · injection h with e1 e2 e3
            exact ⟨b', off', e1, h3⟩
        subst hax
        have HF := hid hfind
        have hbx := hrx.lt (by omega)
        obtain ⟨i, hi⟩ : ∃ i, i = M.pos M.cfS p.es xk := ⟨_, rfl⟩
        rw [← hi] at hlt HF
        obtain ⟨mk, hmk⟩ : ∃ mk, mk = (p.es[i]'hlt).2.2 := ⟨_, rfl⟩
        obtain ⟨r2, hsr2, hfr2, hm1, hm2⟩ := mark_step HS.out HU.out xk hh i hi hlt mk hmk
        have HSR2 := hid hsr2
        have HFR2 := hid hfr2
        have HM1 := hid hm1
        have HM2 := hid hm2
        have HMC : Hid (∀ W, Bel w20 W → W.cell? ⟨bx, ox + i * 3 + 2, none⟩ = some (.bool mk)) := fun W hW => by rw [hmk]; exact ((hrx.below hW hbx) i hlt).2.2
        have hii : (i : Int) < (p.es.length : Int) := by omega
        clear hfind hrx hbx hi hmk hsr2 hfr2 hm1 hm2
        obtain ⟨k0, k1, k2⟩ := blk_cells3 E20.out
        obtain ⟨t0, t1, t2, t3, t4, t5⟩ := blk_cells T20.out.a
        go_wp2_with fail
        refine HF.out.mono ?_
        rintro e w21 ⟨rfl, k21⟩
        have T21 := hid (T20.out.bel k21)
        have E21 := hid (E20.out.below k21 E20.out.lt)
        have hmc := HMC.out w21 k21
        clear t0 t1 t2 t3 t4 t5 k0 k1 k2 k21 HF HMC T20 E20
        obtain ⟨k0, k1, k2⟩ := blk_cells3 E21.out
        obtain ⟨t0, t1, t2, t3, t4, t5⟩ := blk_cells T21.out.a
        cases mk with
        | true =>
          have HM1 := HM1.out
          have HM2 := HM2.out
          simp only [Bool.not_true] at HM1
          have HM1 := hid HM1
          have HM2 := hid HM2
          go_wp2_with fail
          refine (HM1.out _ w21 (own_vs T21.out.ox)).mono ?_
          rintro e w22 ⟨x14, rfl, o14, k22⟩
          obtain ⟨a14, c14, rfl⟩ := row_form o14
          have kB : Bel w22 (w22.alloc (.cells #[.int .i64 r2.lsn, .int .i64 r2.kind, .int .i64 r2.level, .int .i64 r2.right, .string (M.bs r2.high), .slice a14 r2.es.length c14] 30)) := Bel.al (Below.refl _ _) _
          have T23 := hid (T21.out.bel (k22.tr kB))
          have E23 := hid (E21.out.below (k22.tr kB) E21.out.lt)
          have O23 := hid (own_bel o14 kB)
          obtain ⟨g14, hg14⟩ : ∃ g, g = w22.heap.size := ⟨_, rfl⟩
          have N23 : Hid (Blk (w22.alloc (.cells #[.int .i64 r2.lsn, .int .i64 r2.kind, .int .i64 r2.level, .int .i64 r2.right, .string (M.bs r2.high), .slice a14 r2.es.length c14] 30)) g14 #[.int .i64 r2.lsn, .int .i64 r2.kind, .int .i64 r2.level, .int .i64 r2.right, .string (M.bs r2.high), .slice a14 r2.es.length c14] 30) := by rw [hg14]; exact Blk.new _ _ _
          clear t0 t1 t2 t3 t4 t5 k0 k1 k2 k22 kB hmc o14 T21 E21 HM1
          obtain ⟨k0, k1, k2⟩ := blk_cells3 E23.out
          obtain ⟨t0, t1, t2, t3, t4, t5⟩ := blk_cells N23.out
          go_wp2_with fail
          rw [← hg14]
          generalize w22.alloc (.cells #[.int .i64 r2.lsn, .int .i64 r2.kind, .int .i64 r2.level, .int .i64 r2.right, .string (M.bs r2.high), .slice a14 r2.es.length c14] 30) = w23 at *
          clear hg14
          refine (HM2.out _ w23 (own_vs O23.out)).mono ?_
          rintro e w24 ⟨x16, rfl, o16, k24⟩
          obtain ⟨a16, c16, rfl⟩ := row_form o16
          have kB : Bel w24 (w24.alloc (.cells #[.int .i64 p.lsn, .int .i64 p.kind, .int .i64 p.level, .int .i64 p.right, .string (M.bs p.high), .slice a16 p.es.length c16] 30)) := Bel.al (Below.refl _ _) _
          have T34 := hid (T23.out.bel (k24.tr kB))
          have O34 := hid (own_bel O23.out (k24.tr kB))
          have N34 := hid (N23.out.below (k24.tr kB) N23.out.lt)
          have P34 := hid (own_bel o16 kB)
          obtain ⟨g16, hg16⟩ : ∃ g, g = w24.heap.size := ⟨_, rfl⟩
          have M34 : Hid (Blk (w24.alloc (.cells #[.int .i64 p.lsn, .int .i64 p.kind, .int .i64 p.level, .int .i64 p.right, .string (M.bs p.high), .slice a16 p.es.length c16] 30)) g16 #[.int .i64 p.lsn, .int .i64 p.kind, .int .i64 p.level, .int .i64 p.right, .string (M.bs p.high), .slice a16 p.es.length c16] 30) := by rw [hg16]; exact Blk.new _ _ _
          clear t0 t1 t2 t3 t4 t5 k0 k1 k2 k24 kB o16 T23 E23 O23 N23 HM2
          go_wp2_with fail
          rw [← hg16]
          generalize w24.alloc (.cells #[.int .i64 p.lsn, .int .i64 p.kind, .int .i64 p.level, .int .i64 p.right, .string (M.bs p.high), .slice a16 p.es.length c16] 30) = w34 at *
          clear hg16
          refine wp_last fun KL hKL => ?_
          have HL := hid hKL
          clear hKL
          refine region_until (S := fun W : World => Blk W g16 #[.int .i64 p.lsn, .int .i64 p.kind, .int .i64 p.level, .int .i64 p.right, .string (M.bs p.high), .slice a16 p.es.length c16] 30 ∧ Blk W (ga + 1) #[.int .i64 p.lsn, .int .i64 p.kind, .int .i64 p.level, .int .i64 p.right, .string (M.bs p.high), .slice a2 p.es.length c2] 33 ∧ Blk W g14 #[.int .i64 r2.lsn, .int .i64 r2.kind, .int .i64 r2.level, .int .i64 r2.right, .string (M.bs r2.high), .slice a14 r2.es.length c14] 30 ∧ Blk W ga #[.int .i64 p.lsn, .int .i64 p.kind, .int .i64 p.level, .int .i64 p.right, .string (M.bs p.high), .slice (some ⟨bx, ox, none⟩) p.es.length c] 30) (m := 18) (by kernel_rfl) ?_
          have kD : Bel w34 w34.drew := Bel.dr (Below.refl _ _)
          have T35 := hid (T34.out.bel kD)
          have N14 := hid (N34.out.below kD N34.out.lt)
          have N16 := hid (M34.out.below kD M34.out.lt)
          have O14 := hid (own_bel O34.out kD)
          have O16 := hid (own_bel P34.out kD)
          clear kD T34 N34 M34 O34 P34
          generalize w34.drew = w35 at *
          have hS := And.intro N16.out (And.intro T35.out.b (And.intro N14.out T35.out.a))
          have SB := hid (show ∀ W W', Bel W W' → (fun W : World => Blk W g16 #[.int .i64 p.lsn, .int .i64 p.kind, .int .i64 p.level, .int .i64 p.right, .string (M.bs p.high), .slice a16 p.es.length c16] 30 ∧ Blk W (ga + 1) #[.int .i64 p.lsn, .int .i64 p.kind, .int .i64 p.level, .int .i64 p.right, .string (M.bs p.high), .slice a2 p.es.length c2] 33 ∧ Blk W g14 #[.int .i64 r2.lsn, .int .i64 r2.kind, .int .i64 r2.level, .int .i64 r2.right, .string (M.bs r2.high), .slice a14 r2.es.length c14] 30 ∧ Blk W ga #[.int .i64 p.lsn, .int .i64 p.kind, .int .i64 p.level, .int .i64 p.right, .string (M.bs p.high), .slice (some ⟨bx, ox, none⟩) p.es.length c] 30) W → (fun W : World => Blk W g16 #[.int .i64 p.lsn, .int .i64 p.kind, .int .i64 p.level, .int .i64 p.right, .string (M.bs p.high), .slice a16 p.es.length c16] 30 ∧ Blk W (ga + 1) #[.int .i64 p.lsn, .int .i64 p.kind, .int .i64 p.level, .int .i64 p.right, .string (M.bs p.high), .slice a2 p.es.length c2] 33 ∧ Blk W g14 #[.int .i64 r2.lsn, .int .i64 r2.kind, .int .i64 r2.level, .int .i64 r2.right, .string (M.bs r2.high), .slice a14 r2.es.length c14] 30 ∧ Blk W ga #[.int .i64 p.lsn, .int .i64 p.kind, .int .i64 p.level, .int .i64 p.right, .string (M.bs p.high), .slice (some ⟨bx, ox, none⟩) p.es.length c] 30) W' from fun W W' k h => ⟨h.1.below k h.1.lt, h.2.1.below k h.2.1.lt, h.2.2.1.below k h.2.2.1.lt, h.2.2.2.below k h.2.2.2.lt⟩)
          have HSM := hid (same_any p (.slice a16 p.es.length c16) (.slice a2 p.es.length c2) w35 HS.out (own_vs O16.out).vals (own_vs43 T35.out.oy).vals)
          have HF1 := hid (fun W (hW : Bel w35 W) => free_any r2 (.slice a14 r2.es.length c14) W HSR2.out (own_vs (own_bel O14.out hW)).vals)
          have HF2 := hid (fun W (hW : Bel w35 W) => free_any p (.slice (some ⟨bx, ox, none⟩) p.es.length c) W HS.out (own_vs (T35.out.bel hW).ox).vals)
          rw [HFR2.out] at HF1
          refine until_step (j := 0) (by kernel_rfl) rfl (by kernel_rfl) (fun KX hKX => ?_)
          have HX := hid hKX
          clear hKX
          go_simp
          refine HX.out _ _ ⟨fun _ => hS, ?_⟩
          clear HX
          try simp only [Act.put]
          refine until_step (j := 1) (by kernel_rfl) rfl (by kernel_rfl) (fun KX hKX => ?_)
          have HX := hid hKX
          clear hKX
          go_simp
          refine HX.out _ _ ⟨fun _ => hS, ?_⟩
          clear HX
          try simp only [Act.put]
          refine until_step (j := 2) (by kernel_rfl) rfl (by kernel_rfl) (fun KX hKX => ?_)
          have HX := hid hKX
          clear hKX
          go_simp
          refine HX.out _ _ ⟨fun _ => hS, ?_⟩
          clear HX
          try simp only [Act.put]
          refine until_step (j := 3) (by kernel_rfl) rfl (by kernel_rfl) (fun KX hKX => ?_)
          have HX := hid hKX
          clear hKX
          go_simp
          refine HX.out _ _ ⟨fun _ => hS, ?_⟩
          clear HX
          try simp only [Act.put]
          refine until_step (j := 4) (by kernel_rfl) rfl (by kernel_rfl) (fun KX hKX => ?_)
          have HX := hid hKX
          clear hKX
          go_simp
          refine HX.out _ _ ⟨fun _ => hS, ?_⟩
          clear HX
          try simp only [Act.put]
          refine until_step (j := 5) (by kernel_rfl) rfl (by kernel_rfl) (fun KX hKX => ?_)
          have HX := hid hKX
          clear hKX
          go_simp
          refine HX.out _ _ ⟨fun _ => hS, ?_⟩
          clear HX
          try simp only [Act.put]
          refine until_step (j := 6) (by kernel_rfl) rfl (by kernel_rfl) (fun KX hKX => ?_)
          have HX := hid hKX
          clear hKX
          go_simp
          refine HX.out _ _ ⟨fun _ => hS, ?_⟩
          clear HX
          try simp only [Act.put]
          refine take_next (i := 7) (.agg #[.int .i64 p.lsn, .int .i64 p.kind, .int .i64 p.level, .int .i64 p.right, .string (M.bs p.high), .slice a16 p.es.length c16]) [9, 10, 11, 17, 18] (by kernel_rfl) (by kernel_rfl) rfl (by kernel_rfl) (by kernel_rfl) (by kernel_rfl) (by kernel_rfl) (fun _ _ _ h => absurd h.1 (by simp)) (Or.inl ⟨by kernel_rfl, fun w' hSw => by obtain ⟨s0, s1, s2, s3, s4, s5⟩ := blk_cells (hSw.1); go_simp⟩) hS ?_
          try simp only [Act.put]
          refine take_next (i := 8) (.agg #[.int .i64 p.lsn, .int .i64 p.kind, .int .i64 p.level, .int .i64 p.right, .string (M.bs p.high), .slice a2 p.es.length c2]) [9, 10, 11, 17, 18] (by kernel_rfl) (by kernel_rfl) rfl (by kernel_rfl) (by kernel_rfl) (by kernel_rfl) (by kernel_rfl) (fun _ _ _ h => absurd h.1 (by simp)) (Or.inl ⟨by kernel_rfl, fun w' hSw => by obtain ⟨s0, s1, s2, s3, s4, s5⟩ := blk_cells (hSw.2.1); go_simp⟩) hS ?_
          try simp only [Act.put]
          refine until_step (j := 9) (by kernel_rfl) rfl (by kernel_rfl) (fun KX hKX => ?_)
          have HX := hid hKX
          clear hKX
          go_simp
          refine HSM.out.mono ?_
          rintro e w36 ⟨rfl, k36⟩
          have hS := SB.out _ _ k36 hS
          refine HX.out _ _ ⟨fun _ => hS, ?_⟩
          clear HX
          try simp only [Act.put]
          refine until_step (j := 10) (by kernel_rfl) rfl (by kernel_rfl) (fun KX hKX => ?_)
          have HX := hid hKX
          clear hKX
          go_simp
          refine HX.out _ _ ⟨fun _ => hS, ?_⟩
          clear HX
          try simp only [Act.put]
          refine until_step (j := 11) (by kernel_rfl) rfl (by kernel_rfl) (fun KX hKX => ?_)
          have HX := hid hKX
          clear hKX
          go_simp
          refine HX.out _ _ ⟨fun _ => hS, ?_⟩
          clear HX
          try simp only [Act.put]
          refine take_next (i := 12) (.agg #[.int .i64 r2.lsn, .int .i64 r2.kind, .int .i64 r2.level, .int .i64 r2.right, .string (M.bs r2.high), .slice a14 r2.es.length c14]) [13, 16, 17, 18] (by kernel_rfl) (by kernel_rfl) rfl (by kernel_rfl) (by kernel_rfl) (by kernel_rfl) (by kernel_rfl) (fun _ _ _ h => absurd h.1 (by simp)) (Or.inl ⟨by kernel_rfl, fun w' hSw => by obtain ⟨s0, s1, s2, s3, s4, s5⟩ := blk_cells (hSw.2.2.1); go_simp⟩) hS ?_
          try simp only [Act.put]
          refine take_next (i := 14) (.agg #[.int .i64 p.lsn, .int .i64 p.kind, .int .i64 p.level, .int .i64 p.right, .string (M.bs p.high), .slice (some ⟨bx, ox, none⟩) p.es.length c]) [15, 16, 17, 18] (by kernel_rfl) (by kernel_rfl) rfl (by kernel_rfl) (by kernel_rfl) (by kernel_rfl) (by kernel_rfl) (fun _ _ _ h => absurd h.1 (by simp)) (Or.inl ⟨by kernel_rfl, fun w' hSw => by obtain ⟨s0, s1, s2, s3, s4, s5⟩ := blk_cells (hSw.2.2.2); go_simp⟩) hS ?_
          try simp only [Act.put]
          refine until_step (j := 13) (by kernel_rfl) rfl (by kernel_rfl) (fun KX hKX => ?_)
          have HX := hid hKX
          clear hKX
          go_simp
          refine (HF1.out _ k36).mono ?_
          rintro e w37 ⟨rfl, k37⟩
          have hS := SB.out _ _ k37 hS
          refine HX.out _ _ ⟨fun _ => hS, ?_⟩
          clear HX
          try simp only [Act.put]
          refine until_step (j := 15) (by kernel_rfl) rfl (by kernel_rfl) (fun KX hKX => ?_)
          have HX := hid hKX
          clear hKX
          go_simp
          refine (HF2.out _ (k36.tr k37)).mono ?_
          rintro e w38 ⟨rfl, k38⟩
          have hS := SB.out _ _ k38 hS
          refine HX.out _ _ ⟨fun _ => hS, ?_⟩
          clear HX
          try simp only [Act.put]
          refine until_step (j := 16) (by kernel_rfl) rfl (by kernel_rfl) (fun KX hKX => ?_)
          have HX := hid hKX
          clear hKX
          go_simp
          refine HX.out _ _ ⟨fun _ => hS, ?_⟩
          clear HX
          try simp only [Act.put]
          refine until_step (j := 17) (by kernel_rfl) rfl (by kernel_rfl) (fun KX hKX => ?_)
          have HX := hid hKX
          clear hKX
          go_simp
          refine HX.out _ _ ⟨fun _ => hS, ?_⟩
          clear HX
          try simp only [Act.put]
          refine until_step (j := 18) (by kernel_rfl) rfl (by kernel_rfl) (fun KX hKX => ?_)
          have HX := hid hKX
          clear hKX
          go_simp
          refine HX.out _ _ ⟨(fun h => by cases (Eq.trans (Eq.symm (show _ = true by kernel_rfl)) h)), ?_⟩
          clear HX
          refine until_done (by kernel_rfl) ⟨rfl, ?_⟩ _
          refine HL.out _ _ ?_
          clear HL
          go_wp2_with fail
          go_ret
          exact ⟨rfl, T35.out.below.tr ((k36.tr k37).tr k38)⟩
        | false =>
          have HM1 := HM1.out
          have HM2 := HM2.out
          simp only [Bool.not_false] at HM1
          have HM1 := hid HM1
          have HM2 := hid HM2
          go_wp2_with fail
          refine (HM1.out _ w21 (own_vs T21.out.ox)).mono ?_
          rintro e w22 ⟨x14, rfl, o14, k22⟩
          obtain ⟨a14, c14, rfl⟩ := row_form o14
          have kB : Bel w22 (w22.alloc (.cells #[.int .i64 r2.lsn, .int .i64 r2.kind, .int .i64 r2.level, .int .i64 r2.right, .string (M.bs r2.high), .slice a14 r2.es.length c14] 30)) := Bel.al (Below.refl _ _) _
          have T23 := hid (T21.out.bel (k22.tr kB))
          have E23 := hid (E21.out.below (k22.tr kB) E21.out.lt)
          have O23 := hid (own_bel o14 kB)
          obtain ⟨g14, hg14⟩ : ∃ g, g = w22.heap.size := ⟨_, rfl⟩
          have N23 : Hid (Blk (w22.alloc (.cells #[.int .i64 r2.lsn, .int .i64 r2.kind, .int .i64 r2.level, .int .i64 r2.right, .string (M.bs r2.high), .slice a14 r2.es.length c14] 30)) g14 #[.int .i64 r2.lsn, .int .i64 r2.kind, .int .i64 r2.level, .int .i64 r2.right, .string (M.bs r2.high), .slice a14 r2.es.length c14] 30) := by rw [hg14]; exact Blk.new _ _ _
          clear t0 t1 t2 t3 t4 t5 k0 k1 k2 k22 kB hmc o14 T21 E21 HM1
          obtain ⟨k0, k1, k2⟩ := blk_cells3 E23.out
          obtain ⟨t0, t1, t2, t3, t4, t5⟩ := blk_cells N23.out
          go_wp2_with fail
          rw [← hg14]
          generalize w22.alloc (.cells #[.int .i64 r2.lsn, .int .i64 r2.kind, .int .i64 r2.level, .int .i64 r2.right, .string (M.bs r2.high), .slice a14 r2.es.length c14] 30) = w23 at *
          clear hg14
          refine (HM2.out _ w23 (own_vs O23.out)).mono ?_
          rintro e w24 ⟨x16, rfl, o16, k24⟩
          obtain ⟨a16, c16, rfl⟩ := row_form o16
          have kB : Bel w24 (w24.alloc (.cells #[.int .i64 p.lsn, .int .i64 p.kind, .int .i64 p.level, .int .i64 p.right, .string (M.bs p.high), .slice a16 p.es.length c16] 30)) := Bel.al (Below.refl _ _) _
          have T34 := hid (T23.out.bel (k24.tr kB))
          have O34 := hid (own_bel O23.out (k24.tr kB))
          have N34 := hid (N23.out.below (k24.tr kB) N23.out.lt)
          have P34 := hid (own_bel o16 kB)
          obtain ⟨g16, hg16⟩ : ∃ g, g = w24.heap.size := ⟨_, rfl⟩
          have M34 : Hid (Blk (w24.alloc (.cells #[.int .i64 p.lsn, .int .i64 p.kind, .int .i64 p.level, .int .i64 p.right, .string (M.bs p.high), .slice a16 p.es.length c16] 30)) g16 #[.int .i64 p.lsn, .int .i64 p.kind, .int .i64 p.level, .int .i64 p.right, .string (M.bs p.high), .slice a16 p.es.length c16] 30) := by rw [hg16]; exact Blk.new _ _ _
          clear t0 t1 t2 t3 t4 t5 k0 k1 k2 k24 kB o16 T23 E23 O23 N23 HM2
          go_wp2_with fail
          rw [← hg16]
          generalize w24.alloc (.cells #[.int .i64 p.lsn, .int .i64 p.kind, .int .i64 p.level, .int .i64 p.right, .string (M.bs p.high), .slice a16 p.es.length c16] 30) = w34 at *
          clear hg16
          refine wp_last fun KL hKL => ?_
          have HL := hid hKL
          clear hKL
          refine region_until (S := fun W : World => Blk W g16 #[.int .i64 p.lsn, .int .i64 p.kind, .int .i64 p.level, .int .i64 p.right, .string (M.bs p.high), .slice a16 p.es.length c16] 30 ∧ Blk W (ga + 1) #[.int .i64 p.lsn, .int .i64 p.kind, .int .i64 p.level, .int .i64 p.right, .string (M.bs p.high), .slice a2 p.es.length c2] 33 ∧ Blk W g14 #[.int .i64 r2.lsn, .int .i64 r2.kind, .int .i64 r2.level, .int .i64 r2.right, .string (M.bs r2.high), .slice a14 r2.es.length c14] 30 ∧ Blk W ga #[.int .i64 p.lsn, .int .i64 p.kind, .int .i64 p.level, .int .i64 p.right, .string (M.bs p.high), .slice (some ⟨bx, ox, none⟩) p.es.length c] 30) (m := 18) (by kernel_rfl) ?_
          have kD : Bel w34 w34.drew := Bel.dr (Below.refl _ _)
          have T35 := hid (T34.out.bel kD)
          have N14 := hid (N34.out.below kD N34.out.lt)
          have N16 := hid (M34.out.below kD M34.out.lt)
          have O14 := hid (own_bel O34.out kD)
          have O16 := hid (own_bel P34.out kD)
          clear kD T34 N34 M34 O34 P34
          generalize w34.drew = w35 at *
          have hS := And.intro N16.out (And.intro T35.out.b (And.intro N14.out T35.out.a))
          have SB := hid (show ∀ W W', Bel W W' → (fun W : World => Blk W g16 #[.int .i64 p.lsn, .int .i64 p.kind, .int .i64 p.level, .int .i64 p.right, .string (M.bs p.high), .slice a16 p.es.length c16] 30 ∧ Blk W (ga + 1) #[.int .i64 p.lsn, .int .i64 p.kind, .int .i64 p.level, .int .i64 p.right, .string (M.bs p.high), .slice a2 p.es.length c2] 33 ∧ Blk W g14 #[.int .i64 r2.lsn, .int .i64 r2.kind, .int .i64 r2.level, .int .i64 r2.right, .string (M.bs r2.high), .slice a14 r2.es.length c14] 30 ∧ Blk W ga #[.int .i64 p.lsn, .int .i64 p.kind, .int .i64 p.level, .int .i64 p.right, .string (M.bs p.high), .slice (some ⟨bx, ox, none⟩) p.es.length c] 30) W → (fun W : World => Blk W g16 #[.int .i64 p.lsn, .int .i64 p.kind, .int .i64 p.level, .int .i64 p.right, .string (M.bs p.high), .slice a16 p.es.length c16] 30 ∧ Blk W (ga + 1) #[.int .i64 p.lsn, .int .i64 p.kind, .int .i64 p.level, .int .i64 p.right, .string (M.bs p.high), .slice a2 p.es.length c2] 33 ∧ Blk W g14 #[.int .i64 r2.lsn, .int .i64 r2.kind, .int .i64 r2.level, .int .i64 r2.right, .string (M.bs r2.high), .slice a14 r2.es.length c14] 30 ∧ Blk W ga #[.int .i64 p.lsn, .int .i64 p.kind, .int .i64 p.level, .int .i64 p.right, .string (M.bs p.high), .slice (some ⟨bx, ox, none⟩) p.es.length c] 30) W' from fun W W' k h => ⟨h.1.below k h.1.lt, h.2.1.below k h.2.1.lt, h.2.2.1.below k h.2.2.1.lt, h.2.2.2.below k h.2.2.2.lt⟩)
          have HSM := hid (same_any p (.slice a16 p.es.length c16) (.slice a2 p.es.length c2) w35 HS.out (own_vs O16.out).vals (own_vs43 T35.out.oy).vals)
          have HF1 := hid (fun W (hW : Bel w35 W) => free_any r2 (.slice a14 r2.es.length c14) W HSR2.out (own_vs (own_bel O14.out hW)).vals)
          have HF2 := hid (fun W (hW : Bel w35 W) => free_any p (.slice (some ⟨bx, ox, none⟩) p.es.length c) W HS.out (own_vs (T35.out.bel hW).ox).vals)
          rw [HFR2.out] at HF1
          refine until_step (j := 0) (by kernel_rfl) rfl (by kernel_rfl) (fun KX hKX => ?_)
          have HX := hid hKX
          clear hKX
          go_simp
          refine HX.out _ _ ⟨fun _ => hS, ?_⟩
          clear HX
          try simp only [Act.put]
          refine until_step (j := 1) (by kernel_rfl) rfl (by kernel_rfl) (fun KX hKX => ?_)
          have HX := hid hKX
          clear hKX
          go_simp
          refine HX.out _ _ ⟨fun _ => hS, ?_⟩
          clear HX
          try simp only [Act.put]
          refine until_step (j := 2) (by kernel_rfl) rfl (by kernel_rfl) (fun KX hKX => ?_)
          have HX := hid hKX
          clear hKX
          go_simp
          refine HX.out _ _ ⟨fun _ => hS, ?_⟩
          clear HX
          try simp only [Act.put]
          refine until_step (j := 3) (by kernel_rfl) rfl (by kernel_rfl) (fun KX hKX => ?_)
          have HX := hid hKX
          clear hKX
          go_simp
          refine HX.out _ _ ⟨fun _ => hS, ?_⟩
          clear HX
          try simp only [Act.put]
          refine until_step (j := 4) (by kernel_rfl) rfl (by kernel_rfl) (fun KX hKX => ?_)
          have HX := hid hKX
          clear hKX
          go_simp
          refine HX.out _ _ ⟨fun _ => hS, ?_⟩
          clear HX
          try simp only [Act.put]
          refine until_step (j := 5) (by kernel_rfl) rfl (by kernel_rfl) (fun KX hKX => ?_)
          have HX := hid hKX
          clear hKX
          go_simp
          refine HX.out _ _ ⟨fun _ => hS, ?_⟩
          clear HX
          try simp only [Act.put]
          refine until_step (j := 6) (by kernel_rfl) rfl (by kernel_rfl) (fun KX hKX => ?_)
          have HX := hid hKX
          clear hKX
          go_simp
          refine HX.out _ _ ⟨fun _ => hS, ?_⟩
          clear HX
          try simp only [Act.put]
          refine take_next (i := 7) (.agg #[.int .i64 p.lsn, .int .i64 p.kind, .int .i64 p.level, .int .i64 p.right, .string (M.bs p.high), .slice a16 p.es.length c16]) [9, 10, 11, 17, 18] (by kernel_rfl) (by kernel_rfl) rfl (by kernel_rfl) (by kernel_rfl) (by kernel_rfl) (by kernel_rfl) (fun _ _ _ h => absurd h.1 (by simp)) (Or.inl ⟨by kernel_rfl, fun w' hSw => by obtain ⟨s0, s1, s2, s3, s4, s5⟩ := blk_cells (hSw.1); go_simp⟩) hS ?_
          try simp only [Act.put]
          refine take_next (i := 8) (.agg #[.int .i64 p.lsn, .int .i64 p.kind, .int .i64 p.level, .int .i64 p.right, .string (M.bs p.high), .slice a2 p.es.length c2]) [9, 10, 11, 17, 18] (by kernel_rfl) (by kernel_rfl) rfl (by kernel_rfl) (by kernel_rfl) (by kernel_rfl) (by kernel_rfl) (fun _ _ _ h => absurd h.1 (by simp)) (Or.inl ⟨by kernel_rfl, fun w' hSw => by obtain ⟨s0, s1, s2, s3, s4, s5⟩ := blk_cells (hSw.2.1); go_simp⟩) hS ?_
          try simp only [Act.put]
          refine until_step (j := 9) (by kernel_rfl) rfl (by kernel_rfl) (fun KX hKX => ?_)
          have HX := hid hKX
          clear hKX
          go_simp
          refine HSM.out.mono ?_
          rintro e w36 ⟨rfl, k36⟩
          have hS := SB.out _ _ k36 hS
          refine HX.out _ _ ⟨fun _ => hS, ?_⟩
          clear HX
          try simp only [Act.put]
          refine until_step (j := 10) (by kernel_rfl) rfl (by kernel_rfl) (fun KX hKX => ?_)
          have HX := hid hKX
          clear hKX
          go_simp
          refine HX.out _ _ ⟨fun _ => hS, ?_⟩
          clear HX
          try simp only [Act.put]
          refine until_step (j := 11) (by kernel_rfl) rfl (by kernel_rfl) (fun KX hKX => ?_)
          have HX := hid hKX
          clear hKX
          go_simp
          refine HX.out _ _ ⟨fun _ => hS, ?_⟩
          clear HX
          try simp only [Act.put]
          refine take_next (i := 12) (.agg #[.int .i64 r2.lsn, .int .i64 r2.kind, .int .i64 r2.level, .int .i64 r2.right, .string (M.bs r2.high), .slice a14 r2.es.length c14]) [13, 16, 17, 18] (by kernel_rfl) (by kernel_rfl) rfl (by kernel_rfl) (by kernel_rfl) (by kernel_rfl) (by kernel_rfl) (fun _ _ _ h => absurd h.1 (by simp)) (Or.inl ⟨by kernel_rfl, fun w' hSw => by obtain ⟨s0, s1, s2, s3, s4, s5⟩ := blk_cells (hSw.2.2.1); go_simp⟩) hS ?_
          try simp only [Act.put]
          refine take_next (i := 14) (.agg #[.int .i64 p.lsn, .int .i64 p.kind, .int .i64 p.level, .int .i64 p.right, .string (M.bs p.high), .slice (some ⟨bx, ox, none⟩) p.es.length c]) [15, 16, 17, 18] (by kernel_rfl) (by kernel_rfl) rfl (by kernel_rfl) (by kernel_rfl) (by kernel_rfl) (by kernel_rfl) (fun _ _ _ h => absurd h.1 (by simp)) (Or.inl ⟨by kernel_rfl, fun w' hSw => by obtain ⟨s0, s1, s2, s3, s4, s5⟩ := blk_cells (hSw.2.2.2); go_simp⟩) hS ?_
          try simp only [Act.put]
          refine until_step (j := 13) (by kernel_rfl) rfl (by kernel_rfl) (fun KX hKX => ?_)
          have HX := hid hKX
          clear hKX
          go_simp
          refine (HF1.out _ k36).mono ?_
          rintro e w37 ⟨rfl, k37⟩
          have hS := SB.out _ _ k37 hS
          refine HX.out _ _ ⟨fun _ => hS, ?_⟩
          clear HX
          try simp only [Act.put]
          refine until_step (j := 15) (by kernel_rfl) rfl (by kernel_rfl) (fun KX hKX => ?_)
          have HX := hid hKX
          clear hKX
          go_simp
          refine (HF2.out _ (k36.tr k37)).mono ?_
          rintro e w38 ⟨rfl, k38⟩
          have hS := SB.out _ _ k38 hS
          refine HX.out _ _ ⟨fun _ => hS, ?_⟩
          clear HX
          try simp only [Act.put]
          refine until_step (j := 16) (by kernel_rfl) rfl (by kernel_rfl) (fun KX hKX => ?_)
          have HX := hid hKX
          clear hKX
          go_simp
          refine HX.out _ _ ⟨fun _ => hS, ?_⟩
          clear HX
          try simp only [Act.put]
          refine until_step (j := 17) (by kernel_rfl) rfl (by kernel_rfl) (fun KX hKX => ?_)
          have HX := hid hKX
          clear hKX
          go_simp
          refine HX.out _ _ ⟨fun _ => hS, ?_⟩
          clear HX
          try simp only [Act.put]
          refine until_step (j := 18) (by kernel_rfl) rfl (by kernel_rfl) (fun KX hKX => ?_)
          have HX := hid hKX
          clear hKX
          go_simp
          refine HX.out _ _ ⟨(fun h => by cases (Eq.trans (Eq.symm (show _ = true by kernel_rfl)) h)), ?_⟩
          clear HX
          refine until_done (by kernel_rfl) ⟨rfl, ?_⟩ _
          refine HL.out _ _ ?_
          clear HL
          go_wp2_with fail
          go_ret
          exact ⟨rfl, T35.out.below.tr ((k36.tr k37).tr k38)⟩
    · have hins := insert_any p (.slice a p.es.length c) (xk, xv, mm) w8 HS.out (own_vs T8.out.ox) HU.out (by have := HXK.out; show xk.length ≤ _; omega) (by have := HXV.out; show xv.length ≤ _; omega)
      have HINS := hid hins
      clear hins
      obtain ⟨r, hr⟩ : ∃ r, r = M.insP p (xk, xv, mm) := ⟨_, rfl⟩
      obtain ⟨en, hen⟩ : ∃ en, en = M.insE p (xk, xv, mm) := ⟨_, rfl⟩
      have HINS := HINS.out
      rw [← hr, ← hen] at HINS
      rw [← hen] at hE
      have HINS := hid HINS
      clear hr hen
      have hen' : (en == 0) = false := by simpa using hE
      obtain ⟨k0, k1, k2⟩ := blk_cells3 E8.out
      obtain ⟨t0, t1, t2, t3, t4, t5⟩ := blk_cells T8.out.a
      go_wp2_with fail
      refine HINS.out.mono ?_
      rintro e w9 ⟨x9, rfl, o9, k9⟩
      obtain ⟨a9, c9, rfl⟩ := row_form o9
      have kB : Bel w9 (w9.alloc (.cells #[.int .i64 r.lsn, .int .i64 r.kind, .int .i64 r.level, .int .i64 r.right, .string (M.bs r.high), .slice a9 r.es.length c9] 30)) := Bel.al (Below.refl _ _) _
      have T20 := hid (T8.out.bel (k9.tr kB))
      have E20 := hid (E8.out.below (k9.tr kB) E8.out.lt)
      clear t0 t1 t2 t3 t4 t5 k0 k1 k2 k9 kB o9 T8 E8 HINS
      obtain ⟨k0, k1, k2⟩ := blk_cells3 E20.out
      obtain ⟨t0, t1, t2, t3, t4, t5⟩ := blk_cells T20.out.a
      go_wp2_with fail
      clear t0 t1 t2 t3 t4 t5 k0 k1 k2 hE hen'
      generalize w9.alloc (.cells #[.int .i64 r.lsn, .int .i64 r.kind, .int .i64 r.level, .int .i64 r.right, .string (M.bs r.high), .slice a9 r.es.length c9] 30) = w20 at *
      have hfind := find_any p (.slice a p.es.length c) xk w20 HS.out (own_vs T20.out.ox).vals HU.out
      cases hh : M.has M.cfS p.es xk with
      | false =>
        rw [hh] at hfind
        have HF := hid hfind
        clear hfind
        refine HF.out.mono ?_
        rintro e w21 ⟨rfl, k21⟩
        go_wp2_with fail
        go_ret
        exact ⟨rfl, T20.out.below.tr k21⟩
      | true =>
        rw [hh] at hfind
        have hlt := M.pos_lt_of_has hh
        obtain ⟨bx, ox, hax, hrx⟩ : ∃ bx ox, a = some ⟨bx, ox, none⟩ ∧ Row3 w20 bx ox p.es := by
          rcases own_vs T20.out.ox with ⟨_, h0⟩ | ⟨b', off', cap', h, h1, h2, h3⟩
          · rw [h0] at hlt; simp at hlt
          · injection h with e1 e2 e3
            exact ⟨b', off', e1, h3⟩
        subst hax
        have HF := hid hfind
        have hbx := hrx.lt (by omega)
        obtain ⟨i, hi⟩ : ∃ i, i = M.pos M.cfS p.es xk := ⟨_, rfl⟩
        rw [← hi] at hlt HF
        obtain ⟨mk, hmk⟩ : ∃ mk, mk = (p.es[i]'hlt).2.2 := ⟨_, rfl⟩
        obtain ⟨r2, hsr2, hfr2, hm1, hm2⟩ := mark_step HS.out HU.out xk hh i hi hlt mk hmk
        have HSR2 := hid hsr2
        have HFR2 := hid hfr2
        have HM1 := hid hm1
        have HM2 := hid hm2
        have HMC : Hid (∀ W, Bel w20 W → W.cell? ⟨bx, ox + i * 3 + 2, none⟩ = some (.bool mk)) := fun W hW => by rw [hmk]; exact ((hrx.below hW hbx) i hlt).2.2
        have hii : (i : Int) < (p.es.length : Int) := by omega
        clear hfind hrx hbx hi hmk hsr2 hfr2 hm1 hm2
        refine HF.out.mono ?_
        rintro e w21 ⟨rfl, k21⟩
        have T21 := hid (T20.out.bel k21)
        have E21 := hid (E20.out.below k21 E20.out.lt)
        have hmc := HMC.out w21 k21
        clear k21 HF HMC T20 E20
        obtain ⟨k0, k1, k2⟩ := blk_cells3 E21.out
        obtain ⟨t0, t1, t2, t3, t4, t5⟩ := blk_cells T21.out.a
        cases mk with
        | true =>
          have HM1 := HM1.out
          have HM2 := HM2.out
          simp only [Bool.not_true] at HM1
          have HM1 := hid HM1
          have HM2 := hid HM2
          go_wp2_with fail
          refine (HM1.out _ w21 (own_vs T21.out.ox)).mono ?_
          rintro e w22 ⟨x14, rfl, o14, k22⟩
          obtain ⟨a14, c14, rfl⟩ := row_form o14
          have kB : Bel w22 (w22.alloc (.cells #[.int .i64 r2.lsn, .int .i64 r2.kind, .int .i64 r2.level, .int .i64 r2.right, .string (M.bs r2.high), .slice a14 r2.es.length c14] 30)) := Bel.al (Below.refl _ _) _
          have T23 := hid (T21.out.bel (k22.tr kB))
          have E23 := hid (E21.out.below (k22.tr kB) E21.out.lt)
          have O23 := hid (own_bel o14 kB)
          obtain ⟨g14, hg14⟩ : ∃ g, g = w22.heap.size := ⟨_, rfl⟩
          have N23 : Hid (Blk (w22.alloc (.cells #[.int .i64 r2.lsn, .int .i64 r2.kind, .int .i64 r2.level, .int .i64 r2.right, .string (M.bs r2.high), .slice a14 r2.es.length c14] 30)) g14 #[.int .i64 r2.lsn, .int .i64 r2.kind, .int .i64 r2.level, .int .i64 r2.right, .string (M.bs r2.high), .slice a14 r2.es.length c14] 30) := by rw [hg14]; exact Blk.new _ _ _
          clear t0 t1 t2 t3 t4 t5 k0 k1 k2 k22 kB hmc o14 T21 E21 HM1
          obtain ⟨k0, k1, k2⟩ := blk_cells3 E23.out
          obtain ⟨t0, t1, t2, t3, t4, t5⟩ := blk_cells N23.out
          go_wp2_with fail
          rw [← hg14]
          generalize w22.alloc (.cells #[.int .i64 r2.lsn, .int .i64 r2.kind, .int .i64 r2.level, .int .i64 r2.right, .string (M.bs r2.high), .slice a14 r2.es.length c14] 30) = w23 at *
          clear hg14
          refine (HM2.out _ w23 (own_vs O23.out)).mono ?_
          rintro e w24 ⟨x16, rfl, o16, k24⟩
          obtain ⟨a16, c16, rfl⟩ := row_form o16
          have kB : Bel w24 (w24.alloc (.cells #[.int .i64 p.lsn, .int .i64 p.kind, .int .i64 p.level, .int .i64 p.right, .string (M.bs p.high), .slice a16 p.es.length c16] 30)) := Bel.al (Below.refl _ _) _
          have T34 := hid (T23.out.bel (k24.tr kB))
          have O34 := hid (own_bel O23.out (k24.tr kB))
          have N34 := hid (N23.out.below (k24.tr kB) N23.out.lt)
          have P34 := hid (own_bel o16 kB)
          obtain ⟨g16, hg16⟩ : ∃ g, g = w24.heap.size := ⟨_, rfl⟩
          have M34 : Hid (Blk (w24.alloc (.cells #[.int .i64 p.lsn, .int .i64 p.kind, .int .i64 p.level, .int .i64 p.right, .string (M.bs p.high), .slice a16 p.es.length c16] 30)) g16 #[.int .i64 p.lsn, .int .i64 p.kind, .int .i64 p.level, .int .i64 p.right, .string (M.bs p.high), .slice a16 p.es.length c16] 30) := by rw [hg16]; exact Blk.new _ _ _
          clear t0 t1 t2 t3 t4 t5 k0 k1 k2 k24 kB o16 T23 E23 O23 N23 HM2
          go_wp2_with fail
          rw [← hg16]
          generalize w24.alloc (.cells #[.int .i64 p.lsn, .int .i64 p.kind, .int .i64 p.level, .int .i64 p.right, .string (M.bs p.high), .slice a16 p.es.length c16] 30) = w34 at *
          clear hg16
          refine wp_last fun KL hKL => ?_
          have HL := hid hKL
          clear hKL
          refine region_until (S := fun W : World => Blk W g16 #[.int .i64 p.lsn, .int .i64 p.kind, .int .i64 p.level, .int .i64 p.right, .string (M.bs p.high), .slice a16 p.es.length c16] 30 ∧ Blk W (ga + 1) #[.int .i64 p.lsn, .int .i64 p.kind, .int .i64 p.level, .int .i64 p.right, .string (M.bs p.high), .slice a2 p.es.length c2] 33 ∧ Blk W g14 #[.int .i64 r2.lsn, .int .i64 r2.kind, .int .i64 r2.level, .int .i64 r2.right, .string (M.bs r2.high), .slice a14 r2.es.length c14] 30 ∧ Blk W ga #[.int .i64 p.lsn, .int .i64 p.kind, .int .i64 p.level, .int .i64 p.right, .string (M.bs p.high), .slice (some ⟨bx, ox, none⟩) p.es.length c] 30) (m := 18) (by kernel_rfl) ?_
          have kD : Bel w34 w34.drew := Bel.dr (Below.refl _ _)
          have T35 := hid (T34.out.bel kD)
          have N14 := hid (N34.out.below kD N34.out.lt)
          have N16 := hid (M34.out.below kD M34.out.lt)
          have O14 := hid (own_bel O34.out kD)
          have O16 := hid (own_bel P34.out kD)
          clear kD T34 N34 M34 O34 P34
          generalize w34.drew = w35 at *
          have hS := And.intro N16.out (And.intro T35.out.b (And.intro N14.out T35.out.a))
          have SB := hid (show ∀ W W', Bel W W' → (fun W : World => Blk W g16 #[.int .i64 p.lsn, .int .i64 p.kind, .int .i64 p.level, .int .i64 p.right, .string (M.bs p.high), .slice a16 p.es.length c16] 30 ∧ Blk W (ga + 1) #[.int .i64 p.lsn, .int .i64 p.kind, .int .i64 p.level, .int .i64 p.right, .string (M.bs p.high), .slice a2 p.es.length c2] 33 ∧ Blk W g14 #[.int .i64 r2.lsn, .int .i64 r2.kind, .int .i64 r2.level, .int .i64 r2.right, .string (M.bs r2.high), .slice a14 r2.es.length c14] 30 ∧ Blk W ga #[.int .i64 p.lsn, .int .i64 p.kind, .int .i64 p.level, .int .i64 p.right, .string (M.bs p.high), .slice (some ⟨bx, ox, none⟩) p.es.length c] 30) W → (fun W : World => Blk W g16 #[.int .i64 p.lsn, .int .i64 p.kind, .int .i64 p.level, .int .i64 p.right, .string (M.bs p.high), .slice a16 p.es.length c16] 30 ∧ Blk W (ga + 1) #[.int .i64 p.lsn, .int .i64 p.kind, .int .i64 p.level, .int .i64 p.right, .string (M.bs p.high), .slice a2 p.es.length c2] 33 ∧ Blk W g14 #[.int .i64 r2.lsn, .int .i64 r2.kind, .int .i64 r2.level, .int .i64 r2.right, .string (M.bs r2.high), .slice a14 r2.es.length c14] 30 ∧ Blk W ga #[.int .i64 p.lsn, .int .i64 p.kind, .int .i64 p.level, .int .i64 p.right, .string (M.bs p.high), .slice (some ⟨bx, ox, none⟩) p.es.length c] 30) W' from fun W W' k h => ⟨h.1.below k h.1.lt, h.2.1.below k h.2.1.lt, h.2.2.1.below k h.2.2.1.lt, h.2.2.2.below k h.2.2.2.lt⟩)
          have HSM := hid (same_any p (.slice a16 p.es.length c16) (.slice a2 p.es.length c2) w35 HS.out (own_vs O16.out).vals (own_vs43 T35.out.oy).vals)
          have HF1 := hid (fun W (hW : Bel w35 W) => free_any r2 (.slice a14 r2.es.length c14) W HSR2.out (own_vs (own_bel O14.out hW)).vals)
          have HF2 := hid (fun W (hW : Bel w35 W) => free_any p (.slice (some ⟨bx, ox, none⟩) p.es.length c) W HS.out (own_vs (T35.out.bel hW).ox).vals)
          rw [HFR2.out] at HF1
          refine until_step (j := 0) (by kernel_rfl) rfl (by kernel_rfl) (fun KX hKX => ?_)
          have HX := hid hKX
          clear hKX
          go_simp
          refine HX.out _ _ ⟨fun _ => hS, ?_⟩
          clear HX
          try simp only [Act.put]
          refine until_step (j := 1) (by kernel_rfl) rfl (by kernel_rfl) (fun KX hKX => ?_)
          have HX := hid hKX
          clear hKX
          go_simp
          refine HX.out _ _ ⟨fun _ => hS, ?_⟩
          clear HX
          try simp only [Act.put]
          refine until_step (j := 2) (by kernel_rfl) rfl (by kernel_rfl) (fun KX hKX => ?_)
          have HX := hid hKX
          clear hKX
          go_simp
          refine HX.out _ _ ⟨fun _ => hS, ?_⟩
          clear HX
          try simp only [Act.put]
          refine until_step (j := 3) (by kernel_rfl) rfl (by kernel_rfl) (fun KX hKX => ?_)
          have HX := hid hKX
          clear hKX
          go_simp
          refine HX.out _ _ ⟨fun _ => hS, ?_⟩
          clear HX
          try simp only [Act.put]
          refine until_step (j := 4) (by kernel_rfl) rfl (by kernel_rfl) (fun KX hKX => ?_)
          have HX := hid hKX
          clear hKX
          go_simp
          refine HX.out _ _ ⟨fun _ => hS, ?_⟩
          clear HX
          try simp only [Act.put]
          refine until_step (j := 5) (by kernel_rfl) rfl (by kernel_rfl) (fun KX hKX => ?_)
          have HX := hid hKX
          clear hKX
          go_simp
          refine HX.out _ _ ⟨fun _ => hS, ?_⟩
          clear HX
          try simp only [Act.put]
          refine until_step (j := 6) (by kernel_rfl) rfl (by kernel_rfl) (fun KX hKX => ?_)
          have HX := hid hKX
          clear hKX
          go_simp
          refine HX.out _ _ ⟨fun _ => hS, ?_⟩
          clear HX
          try simp only [Act.put]
          refine take_next (i := 7) (.agg #[.int .i64 p.lsn, .int .i64 p.kind, .int .i64 p.level, .int .i64 p.right, .string (M.bs p.high), .slice a16 p.es.length c16]) [9, 10, 11, 17, 18] (by kernel_rfl) (by kernel_rfl) rfl (by kernel_rfl) (by kernel_rfl) (by kernel_rfl) (by kernel_rfl) (fun _ _ _ h => absurd h.1 (by simp)) (Or.inl ⟨by kernel_rfl, fun w' hSw => by obtain ⟨s0, s1, s2, s3, s4, s5⟩ := blk_cells (hSw.1); go_simp⟩) hS ?_
          try simp only [Act.put]
          refine take_next (i := 8) (.agg #[.int .i64 p.lsn, .int .i64 p.kind, .int .i64 p.level, .int .i64 p.right, .string (M.bs p.high), .slice a2 p.es.length c2]) [9, 10, 11, 17, 18] (by kernel_rfl) (by kernel_rfl) rfl (by kernel_rfl) (by kernel_rfl) (by kernel_rfl) (by kernel_rfl) (fun _ _ _ h => absurd h.1 (by simp)) (Or.inl ⟨by kernel_rfl, fun w' hSw => by obtain ⟨s0, s1, s2, s3, s4, s5⟩ := blk_cells (hSw.2.1); go_simp⟩) hS ?_
          try simp only [Act.put]
          refine until_step (j := 9) (by kernel_rfl) rfl (by kernel_rfl) (fun KX hKX => ?_)
          have HX := hid hKX
          clear hKX
          go_simp
          refine HSM.out.mono ?_
          rintro e w36 ⟨rfl, k36⟩
          have hS := SB.out _ _ k36 hS
          refine HX.out _ _ ⟨fun _ => hS, ?_⟩
          clear HX
          try simp only [Act.put]
          refine until_step (j := 10) (by kernel_rfl) rfl (by kernel_rfl) (fun KX hKX => ?_)
          have HX := hid hKX
          clear hKX
          go_simp
          refine HX.out _ _ ⟨fun _ => hS, ?_⟩
          clear HX
          try simp only [Act.put]
          refine until_step (j := 11) (by kernel_rfl) rfl (by kernel_rfl) (fun KX hKX => ?_)
          have HX := hid hKX
          clear hKX
          go_simp
          refine HX.out _ _ ⟨fun _ => hS, ?_⟩
          clear HX
          try simp only [Act.put]
          refine take_next (i := 12) (.agg #[.int .i64 r2.lsn, .int .i64 r2.kind, .int .i64 r2.level, .int .i64 r2.right, .string (M.bs r2.high), .slice a14 r2.es.length c14]) [13, 16, 17, 18] (by kernel_rfl) (by kernel_rfl) rfl (by kernel_rfl) (by kernel_rfl) (by kernel_rfl) (by kernel_rfl) (fun _ _ _ h => absurd h.1 (by simp)) (Or.inl ⟨by kernel_rfl, fun w' hSw => by obtain ⟨s0, s1, s2, s3, s4, s5⟩ := blk_cells (hSw.2.2.1); go_simp⟩) hS ?_
          try simp only [Act.put]
          refine take_next (i := 14) (.agg #[.int .i64 p.lsn, .int .i64 p.kind, .int .i64 p.level, .int .i64 p.right, .string (M.bs p.high), .slice (some ⟨bx, ox, none⟩) p.es.length c]) [15, 16, 17, 18] (by kernel_rfl) (by kernel_rfl) rfl (by kernel_rfl) (by kernel_rfl) (by kernel_rfl) (by kernel_rfl) (fun _ _ _ h => absurd h.1 (by simp)) (Or.inl ⟨by kernel_rfl, fun w' hSw => by obtain ⟨s0, s1, s2, s3, s4, s5⟩ := blk_cells (hSw.2.2.2); go_simp⟩) hS ?_
          try simp only [Act.put]
          refine until_step (j := 13) (by kernel_rfl) rfl (by kernel_rfl) (fun KX hKX => ?_)
          have HX := hid hKX
          clear hKX
          go_simp
          refine (HF1.out _ k36).mono ?_
          rintro e w37 ⟨rfl, k37⟩
          have hS := SB.out _ _ k37 hS
          refine HX.out _ _ ⟨fun _ => hS, ?_⟩
          clear HX
          try simp only [Act.put]
          refine until_step (j := 15) (by kernel_rfl) rfl (by kernel_rfl) (fun KX hKX => ?_)
          have HX := hid hKX
          clear hKX
          go_simp
          refine (HF2.out _ (k36.tr k37)).mono ?_
          rintro e w38 ⟨rfl, k38⟩
          have hS := SB.out _ _ k38 hS
          refine HX.out _ _ ⟨fun _ => hS, ?_⟩
          clear HX
          try simp only [Act.put]
          refine until_step (j := 16) (by kernel_rfl) rfl (by kernel_rfl) (fun KX hKX => ?_)
          have HX := hid hKX
          clear hKX
          go_simp
          refine HX.out _ _ ⟨fun _ => hS, ?_⟩
          clear HX
          try simp only [Act.put]
          refine until_step (j := 17) (by kernel_rfl) rfl (by kernel_rfl) (fun KX hKX => ?_)
          have HX := hid hKX
          clear hKX
          go_simp
          refine HX.out _ _ ⟨fun _ => hS, ?_⟩
          clear HX
          try simp only [Act.put]
          refine until_step (j := 18) (by kernel_rfl) rfl (by kernel_rfl) (fun KX hKX => ?_)
          have HX := hid hKX
          clear hKX
          go_simp
          refine HX.out _ _ ⟨(fun h => by cases (Eq.trans (Eq.symm (show _ = true by kernel_rfl)) h)), ?_⟩
          clear HX
          refine until_done (by kernel_rfl) ⟨rfl, ?_⟩ _
          refine HL.out _ _ ?_
          clear HL
          go_wp2_with fail
          go_ret
          exact ⟨rfl, T35.out.below.tr ((k36.tr k37).tr k38)⟩
        | false =>
          have HM1 := HM1.out
          have HM2 := HM2.out
          simp only [Bool.not_false] at HM1
          have HM1 := hid HM1
          have HM2 := hid HM2
          go_wp2_with fail
          refine (HM1.out _ w21 (own_vs T21.out.ox)).mono ?_
          rintro e w22 ⟨x14, rfl, o14, k22⟩
          obtain ⟨a14, c14, rfl⟩ := row_form o14
          have kB : Bel w22 (w22.alloc (.cells #[.int .i64 r2.lsn, .int .i64 r2.kind, .int .i64 r2.level, .int .i64 r2.right, .string (M.bs r2.high), .slice a14 r2.es.length c14] 30)) := Bel.al (Below.refl _ _) _
          have T23 := hid (T21.out.bel (k22.tr kB))
          have E23 := hid (E21.out.below (k22.tr kB) E21.out.lt)
          have O23 := hid (own_bel o14 kB)
          obtain ⟨g14, hg14⟩ : ∃ g, g = w22.heap.size := ⟨_, rfl⟩
          have N23 : Hid (Blk (w22.alloc (.cells #[.int .i64 r2.lsn, .int .i64 r2.kind, .int .i64 r2.level, .int .i64 r2.right, .string (M.bs r2.high), .slice a14 r2.es.length c14] 30)) g14 #[.int .i64 r2.lsn, .int .i64 r2.kind, .int .i64 r2.level, .int .i64 r2.right, .string (M.bs r2.high), .slice a14 r2.es.length c14] 30) := by rw [hg14]; exact Blk.new _ _ _
          clear t0 t1 t2 t3 t4 t5 k0 k1 k2 k22 kB hmc o14 T21 E21 HM1
          obtain ⟨k0, k1, k2⟩ := blk_cells3 E23.out
          obtain ⟨t0, t1, t2, t3, t4, t5⟩ := blk_cells N23.out
          go_wp2_with fail
          rw [← hg14]
          generalize w22.alloc (.cells #[.int .i64 r2.lsn, .int .i64 r2.kind, .int .i64 r2.level, .int .i64 r2.right, .string (M.bs r2.high), .slice a14 r2.es.length c14] 30) = w23 at *
          clear hg14
          refine (HM2.out _ w23 (own_vs O23.out)).mono ?_
          rintro e w24 ⟨x16, rfl, o16, k24⟩
          obtain ⟨a16, c16, rfl⟩ := row_form o16
          have kB : Bel w24 (w24.alloc (.cells #[.int .i64 p.lsn, .int .i64 p.kind, .int .i64 p.level, .int .i64 p.right, .string (M.bs p.high), .slice a16 p.es.length c16] 30)) := Bel.al (Below.refl _ _) _
          have T34 := hid (T23.out.bel (k24.tr kB))
          have O34 := hid (own_bel O23.out (k24.tr kB))
          have N34 := hid (N23.out.below (k24.tr kB) N23.out.lt)
          have P34 := hid (own_bel o16 kB)
          obtain ⟨g16, hg16⟩ : ∃ g, g = w24.heap.size := ⟨_, rfl⟩
          have M34 : Hid (Blk (w24.alloc (.cells #[.int .i64 p.lsn, .int .i64 p.kind, .int .i64 p.level, .int .i64 p.right, .string (M.bs p.high), .slice a16 p.es.length c16] 30)) g16 #[.int .i64 p.lsn, .int .i64 p.kind, .int .i64 p.level, .int .i64 p.right, .string (M.bs p.high), .slice a16 p.es.length c16] 30) := by rw [hg16]; exact Blk.new _ _ _
          clear t0 t1 t2 t3 t4 t5 k0 k1 k2 k24 kB o16 T23 E23 O23 N23 HM2
          go_wp2_with fail
          rw [← hg16]
          generalize w24.alloc (.cells #[.int .i64 p.lsn, .int .i64 p.kind, .int .i64 p.level, .int .i64 p.right, .string (M.bs p.high), .slice a16 p.es.length c16] 30) = w34 at *
          clear hg16
          refine wp_last fun KL hKL => ?_
          have HL := hid hKL
          clear hKL
          refine region_until (S := fun W : World => Blk W g16 #[.int .i64 p.lsn, .int .i64 p.kind, .int .i64 p.level, .int .i64 p.right, .string (M.bs p.high), .slice a16 p.es.length c16] 30 ∧ Blk W (ga + 1) #[.int .i64 p.lsn, .int .i64 p.kind, .int .i64 p.level, .int .i64 p.right, .string (M.bs p.high), .slice a2 p.es.length c2] 33 ∧ Blk W g14 #[.int .i64 r2.lsn, .int .i64 r2.kind, .int .i64 r2.level, .int .i64 r2.right, .string (M.bs r2.high), .slice a14 r2.es.length c14] 30 ∧ Blk W ga #[.int .i64 p.lsn, .int .i64 p.kind, .int .i64 p.level, .int .i64 p.right, .string (M.bs p.high), .slice (some ⟨bx, ox, none⟩) p.es.length c] 30) (m := 18) (by kernel_rfl) ?_
          have kD : Bel w34 w34.drew := Bel.dr (Below.refl _ _)
          have T35 := hid (T34.out.bel kD)
          have N14 := hid (N34.out.below kD N34.out.lt)
          have N16 := hid (M34.out.below kD M34.out.lt)
          have O14 := hid (own_bel O34.out kD)
          have O16 := hid (own_bel P34.out kD)
          clear kD T34 N34 M34 O34 P34
          generalize w34.drew = w35 at *
          have hS := And.intro N16.out (And.intro T35.out.b (And.intro N14.out T35.out.a))
          have SB := hid (show ∀ W W', Bel W W' → (fun W : World => Blk W g16 #[.int .i64 p.lsn, .int .i64 p.kind, .int .i64 p.level, .int .i64 p.right, .string (M.bs p.high), .slice a16 p.es.length c16] 30 ∧ Blk W (ga + 1) #[.int .i64 p.lsn, .int .i64 p.kind, .int .i64 p.level, .int .i64 p.right, .string (M.bs p.high), .slice a2 p.es.length c2] 33 ∧ Blk W g14 #[.int .i64 r2.lsn, .int .i64 r2.kind, .int .i64 r2.level, .int .i64 r2.right, .string (M.bs r2.high), .slice a14 r2.es.length c14] 30 ∧ Blk W ga #[.int .i64 p.lsn, .int .i64 p.kind, .int .i64 p.level, .int .i64 p.right, .string (M.bs p.high), .slice (some ⟨bx, ox, none⟩) p.es.length c] 30) W → (fun W : World => Blk W g16 #[.int .i64 p.lsn, .int .i64 p.kind, .int .i64 p.level, .int .i64 p.right, .string (M.bs p.high), .slice a16 p.es.length c16] 30 ∧ Blk W (ga + 1) #[.int .i64 p.lsn, .int .i64 p.kind, .int .i64 p.level, .int .i64 p.right, .string (M.bs p.high), .slice a2 p.es.length c2] 33 ∧ Blk W g14 #[.int .i64 r2.lsn, .int .i64 r2.kind, .int .i64 r2.level, .int .i64 r2.right, .string (M.bs r2.high), .slice a14 r2.es.length c14] 30 ∧ Blk W ga #[.int .i64 p.lsn, .int .i64 p.kind, .int .i64 p.level, .int .i64 p.right, .string (M.bs p.high), .slice (some ⟨bx, ox, none⟩) p.es.length c] 30) W' from fun W W' k h => ⟨h.1.below k h.1.lt, h.2.1.below k h.2.1.lt, h.2.2.1.below k h.2.2.1.lt, h.2.2.2.below k h.2.2.2.lt⟩)
          have HSM := hid (same_any p (.slice a16 p.es.length c16) (.slice a2 p.es.length c2) w35 HS.out (own_vs O16.out).vals (own_vs43 T35.out.oy).vals)
          have HF1 := hid (fun W (hW : Bel w35 W) => free_any r2 (.slice a14 r2.es.length c14) W HSR2.out (own_vs (own_bel O14.out hW)).vals)
          have HF2 := hid (fun W (hW : Bel w35 W) => free_any p (.slice (some ⟨bx, ox, none⟩) p.es.length c) W HS.out (own_vs (T35.out.bel hW).ox).vals)
          rw [HFR2.out] at HF1
          refine until_step (j := 0) (by kernel_rfl) rfl (by kernel_rfl) (fun KX hKX => ?_)
          have HX := hid hKX
          clear hKX
          go_simp
          refine HX.out _ _ ⟨fun _ => hS, ?_⟩
          clear HX
          try simp only [Act.put]
          refine until_step (j := 1) (by kernel_rfl) rfl (by kernel_rfl) (fun KX hKX => ?_)
          have HX := hid hKX
          clear hKX
          go_simp
          refine HX.out _ _ ⟨fun _ => hS, ?_⟩
          clear HX
          try simp only [Act.put]
          refine until_step (j := 2) (by kernel_rfl) rfl (by kernel_rfl) (fun KX hKX => ?_)
          have HX := hid hKX
          clear hKX
          go_simp
          refine HX.out _ _ ⟨fun _ => hS, ?_⟩
          clear HX
          try simp only [Act.put]
          refine until_step (j := 3) (by kernel_rfl) rfl (by kernel_rfl) (fun KX hKX => ?_)
          have HX := hid hKX
          clear hKX
          go_simp
          refine HX.out _ _ ⟨fun _ => hS, ?_⟩
          clear HX
          try simp only [Act.put]
          refine until_step (j := 4) (by kernel_rfl) rfl (by kernel_rfl) (fun KX hKX => ?_)
          have HX := hid hKX
          clear hKX
          go_simp
          refine HX.out _ _ ⟨fun _ => hS, ?_⟩
          clear HX
          try simp only [Act.put]
          refine until_step (j := 5) (by kernel_rfl) rfl (by kernel_rfl) (fun KX hKX => ?_)
          have HX := hid hKX
          clear hKX
          go_simp
          refine HX.out _ _ ⟨fun _ => hS, ?_⟩
          clear HX
          try simp only [Act.put]
          refine until_step (j := 6) (by kernel_rfl) rfl (by kernel_rfl) (fun KX hKX => ?_)
          have HX := hid hKX
          clear hKX
          go_simp
          refine HX.out _ _ ⟨fun _ => hS, ?_⟩
          clear HX
          try simp only [Act.put]
          refine take_next (i := 7) (.agg #[.int .i64 p.lsn, .int .i64 p.kind, .int .i64 p.level, .int .i64 p.right, .string (M.bs p.high), .slice a16 p.es.length c16]) [9, 10, 11, 17, 18] (by kernel_rfl) (by kernel_rfl) rfl (by kernel_rfl) (by kernel_rfl) (by kernel_rfl) (by kernel_rfl) (fun _ _ _ h => absurd h.1 (by simp)) (Or.inl ⟨by kernel_rfl, fun w' hSw => by obtain ⟨s0, s1, s2, s3, s4, s5⟩ := blk_cells (hSw.1); go_simp⟩) hS ?_
          try simp only [Act.put]
          refine take_next (i := 8) (.agg #[.int .i64 p.lsn, .int .i64 p.kind, .int .i64 p.level, .int .i64 p.right, .string (M.bs p.high), .slice a2 p.es.length c2]) [9, 10, 11, 17, 18] (by kernel_rfl) (by kernel_rfl) rfl (by kernel_rfl) (by kernel_rfl) (by kernel_rfl) (by kernel_rfl) (fun _ _ _ h => absurd h.1 (by simp)) (Or.inl ⟨by kernel_rfl, fun w' hSw => by obtain ⟨s0, s1, s2, s3, s4, s5⟩ := blk_cells (hSw.2.1); go_simp⟩) hS ?_
          try simp only [Act.put]
          refine until_step (j := 9) (by kernel_rfl) rfl (by kernel_rfl) (fun KX hKX => ?_)
          have HX := hid hKX
          clear hKX
          go_simp
          refine HSM.out.mono ?_
          rintro e w36 ⟨rfl, k36⟩
          have hS := SB.out _ _ k36 hS
          refine HX.out _ _ ⟨fun _ => hS, ?_⟩
          clear HX
          try simp only [Act.put]
          refine until_step (j := 10) (by kernel_rfl) rfl (by kernel_rfl) (fun KX hKX => ?_)
          have HX := hid hKX
          clear hKX
          go_simp
          refine HX.out _ _ ⟨fun _ => hS, ?_⟩
          clear HX
          try simp only [Act.put]
          refine until_step (j := 11) (by kernel_rfl) rfl (by kernel_rfl) (fun KX hKX => ?_)
          have HX := hid hKX
          clear hKX
          go_simp
          refine HX.out _ _ ⟨fun _ => hS, ?_⟩
          clear HX
          try simp only [Act.put]
          refine take_next (i := 12) (.agg #[.int .i64 r2.lsn, .int .i64 r2.kind, .int .i64 r2.level, .int .i64 r2.right, .string (M.bs r2.high), .slice a14 r2.es.length c14]) [13, 16, 17, 18] (by kernel_rfl) (by kernel_rfl) rfl (by kernel_rfl) (by kernel_rfl) (by kernel_rfl) (by kernel_rfl) (fun _ _ _ h => absurd h.1 (by simp)) (Or.inl ⟨by kernel_rfl, fun w' hSw => by obtain ⟨s0, s1, s2, s3, s4, s5⟩ := blk_cells (hSw.2.2.1); go_simp⟩) hS ?_
          try simp only [Act.put]
          refine take_next (i := 14) (.agg #[.int .i64 p.lsn, .int .i64 p.kind, .int .i64 p.level, .int .i64 p.right, .string (M.bs p.high), .slice (some ⟨bx, ox, none⟩) p.es.length c]) [15, 16, 17, 18] (by kernel_rfl) (by kernel_rfl) rfl (by kernel_rfl) (by kernel_rfl) (by kernel_rfl) (by kernel_rfl) (fun _ _ _ h => absurd h.1 (by simp)) (Or.inl ⟨by kernel_rfl, fun w' hSw => by obtain ⟨s0, s1, s2, s3, s4, s5⟩ := blk_cells (hSw.2.2.2); go_simp⟩) hS ?_
          try simp only [Act.put]
          refine until_step (j := 13) (by kernel_rfl) rfl (by kernel_rfl) (fun KX hKX => ?_)
          have HX := hid hKX
          clear hKX
          go_simp
          refine (HF1.out _ k36).mono ?_
          rintro e w37 ⟨rfl, k37⟩
          have hS := SB.out _ _ k37 hS
          refine HX.out _ _ ⟨fun _ => hS, ?_⟩
          clear HX
          try simp only [Act.put]
          refine until_step (j := 15) (by kernel_rfl) rfl (by kernel_rfl) (fun KX hKX => ?_)
          have HX := hid hKX
          clear hKX
          go_simp
          refine (HF2.out _ (k36.tr k37)).mono ?_
          rintro e w38 ⟨rfl, k38⟩
          have hS := SB.out _ _ k38 hS
          refine HX.out _ _ ⟨fun _ => hS, ?_⟩
          clear HX
          try simp only [Act.put]
          refine until_step (j := 16) (by kernel_rfl) rfl (by kernel_rfl) (fun KX hKX => ?_)
          have HX := hid hKX
          clear hKX
          go_simp
          refine HX.out _ _ ⟨fun _ => hS, ?_⟩
          clear HX
          try simp only [Act.put]
          refine until_step (j := 17) (by kernel_rfl) rfl (by kernel_rfl) (fun KX hKX => ?_)
          have HX := hid hKX
          clear hKX
          go_simp
          refine HX.out _ _ ⟨fun _ => hS, ?_⟩
          clear HX
          try simp only [Act.put]
          refine until_step (j := 18) (by kernel_rfl) rfl (by kernel_rfl) (fun KX hKX => ?_)
          have HX := hid hKX
          clear hKX
          go_simp
          refine HX.out _ _ ⟨(fun h => by cases (Eq.trans (Eq.symm (show _ = true by kernel_rfl)) h)), ?_⟩
          clear HX
          refine until_done (by kernel_rfl) ⟨rfl, ?_⟩ _
          refine HL.out _ _ ?_
          clear HL
          go_wp2_with fail
          go_ret
          exact ⟨rfl, T35.out.below.tr ((k36.tr k37).tr k38)⟩
end Go.Proofs.Ytcmplklefeicbaa
