/-
  The law NodeChanges, walked.
-/
import Derived.Test.YtcmplklefeicbaaGD
import Derived.Test.YtcmplklefeicbaaFB
namespace Go.Proofs.Ytcmplklefeicbaa
open Go.RowKit
set_option maxRecDepth 100000

/-- The four pages in their boxes. -/
structure LB (w W : World) (ga : Nat) (p : M.Pg) (x y : Value) (gc gd : Nat) (r q : M.Pg) (u v : Value) : Prop where
  k : KB w W ga p x y
  c : Blk W gc #[.int .i64 r.lsn, .int .i64 r.kind, .int .i64 r.level, .int .i64 r.right, .string (M.bs r.high), u] 30
  d : Blk W gd #[.int .i64 q.lsn, .int .i64 q.kind, .int .i64 q.level, .int .i64 q.right, .string (M.bs q.high), v] 33
  ou : W.ownsRow (w.heap.size + 1 + 1) 40 3 u r.es.length (csE r.es)
  ov : W.ownsRow (w.heap.size + 1 + 1) 43 3 v q.es.length (csE q.es)
  lt : ga + 1 < gc
  lt2 : gc < gd
theorem LB.bel {w W W' : World} {ga gc gd : Nat} {p r q : M.Pg} {x y u v : Value} (h : LB w W ga p x y gc gd r q u v) (k : Bel W W') : LB w W' ga p x y gc gd r q u v :=
  ⟨h.k.bel k, h.c.below k h.c.lt, h.d.below k h.d.lt, own_bel h.ou k, bel43 h.ov k, h.lt, h.lt2⟩
theorem KB.six {w W : World} {ga : Nat} {p : M.Pg} {x y : Value} (h : KB w W ga p x y) {B : Nat} {cs : Array Value} {t : TypeId} (hb : Blk W B cs t) (ht : t = 30 ∨ t = 33) (hB : ga + 1 < B) (c0 c1 c2 c3 c4 c5 : Value) : KB w ((((((W.setCell ⟨B, 0, none⟩ c0).setCell ⟨B, 1, none⟩ c1).setCell ⟨B, 2, none⟩ c2).setCell ⟨B, 3, none⟩ c3).setCell ⟨B, 4, none⟩ c4).setCell ⟨B, 5, none⟩ c5) ga p x y := by
  have hlt := h.lt
  exact ⟨other6 h.a (by omega) _ _ _ _ _ _, other6 h.b (by omega) _ _ _ _ _ _, ownc6 h.ox (row_ne h.ox hb (by rcases ht with rfl | rfl <;> decide)) _ _ _ _ _ _, ownc43 h.oy (row_ne h.oy hb (by rcases ht with rfl | rfl <;> decide)) _ _ _ _ _ _, bel6 h.below (by omega) _ _ _ _ _ _, h.lt⟩
theorem LB.putc {w W : World} {ga gc gd base : Nat} {p r q s : M.Pg} {x y u v : Value} {a : Option Addr} {c : Nat} (h : LB w W ga p x y gc gd r q u v) (o : W.ownsRow base 40 3 (.slice a s.es.length c) s.es.length (csE s.es)) (hb : w.heap.size + 1 + 1 ≤ base) : LB w ((((((W.setCell ⟨gc, 0, none⟩ (.int .i64 s.lsn)).setCell ⟨gc, 1, none⟩ (.int .i64 s.kind)).setCell ⟨gc, 2, none⟩ (.int .i64 s.level)).setCell ⟨gc, 3, none⟩ (.int .i64 s.right)).setCell ⟨gc, 4, none⟩ (.string (M.bs s.high))).setCell ⟨gc, 5, none⟩ (.slice a s.es.length c)) ga p x y gc gd s q (.slice a s.es.length c) v := by
  have hlt := h.lt2
  exact ⟨h.k.six h.c (.inl rfl) h.lt _ _ _ _ _ _, set6 h.c _ _ _ _ _ _, other6 h.d (by omega) _ _ _ _ _ _, own_base (ownc6 o (row_ne o h.c (by decide)) _ _ _ _ _ _) hb, ownc43 h.ov (row_ne h.ov h.c (by decide)) _ _ _ _ _ _, h.lt, h.lt2⟩
theorem LB.putd {w W : World} {ga gc gd base : Nat} {p r q s : M.Pg} {x y u v : Value} {a : Option Addr} {c : Nat} (h : LB w W ga p x y gc gd r q u v) (o : W.ownsRow base 43 3 (.slice a s.es.length c) s.es.length (csE s.es)) (hb : w.heap.size + 1 + 1 ≤ base) : LB w ((((((W.setCell ⟨gd, 0, none⟩ (.int .i64 s.lsn)).setCell ⟨gd, 1, none⟩ (.int .i64 s.kind)).setCell ⟨gd, 2, none⟩ (.int .i64 s.level)).setCell ⟨gd, 3, none⟩ (.int .i64 s.right)).setCell ⟨gd, 4, none⟩ (.string (M.bs s.high))).setCell ⟨gd, 5, none⟩ (.slice a s.es.length c)) ga p x y gc gd r s u (.slice a s.es.length c) := by
  have hlt := h.lt2
  have hlt1 := h.lt
  exact ⟨h.k.six h.d (.inr rfl) (by omega) _ _ _ _ _ _, other6 h.c (by omega) _ _ _ _ _ _, set6 h.d _ _ _ _ _ _, ownc6 h.ou (row_ne h.ou h.d (by decide)) _ _ _ _ _ _, base43 (ownc43 o (row_ne o h.d (by decide)) _ _ _ _ _ _) hb, h.lt, h.lt2⟩
set_option maxHeartbeats 40000000 in
theorem changes_any (lv rt : Int) (hg : List UInt8) (L : List M.En) (ar : Option Addr) (cap : Nat) (td : Bool) (kk vv : List UInt8) (mm ms : Bool) (w : World) (hv : Vals w (.slice ar L.length cap) L) (hL : L.length ≤ maxLen) (hk : ∀ e ∈ L, e.1.length ≤ maxLen ∧ e.2.1.length ≤ maxLen) (hh : hg.length ≤ maxLen) (hkk : kk.length ≤ maxLen) (hvv : vv.length ≤ maxLen) :
    Calls Try.prog 3 #[.agg #[.int .i64 lv, .int .i64 rt, .string (M.bs hg), .slice ar L.length cap, .bool td], .agg #[.string (M.bs kk), .string (M.bs vv), .bool mm], .bool ms] w fun e w' => e = .returned (.bool true) ∧ Bel w w' := by
  have HK1 : Hid (kk.length ≤ 9223372036854775807 ∧ vv.length ≤ 9223372036854775807) := by unfold maxLen at *; exact ⟨by omega, by omega⟩
  obtain ⟨q1, q2⟩ := heap_two w (.cells #[.int .i64 lv, .int .i64 rt, .string (M.bs hg), .slice ar L.length cap, .bool td] 24) (.cells #[.string (M.bs kk), .string (M.bs vv), .bool mm] 26)
  have Q1 : Hid (Blk _ w.heap.size #[.int .i64 lv, .int .i64 rt, .string (M.bs hg), .slice ar L.length cap, .bool td] 24) := q1
  have Q2 : Hid (Blk _ (w.heap.size + 1) #[.string (M.bs kk), .string (M.bs vv), .bool mm] 26) := q2
  have HB0 : Hid (Bel w ((w.alloc (.cells #[.int .i64 lv, .int .i64 rt, .string (M.bs hg), .slice ar L.length cap, .bool td] 24)).alloc (.cells #[.string (M.bs kk), .string (M.bs vv), .bool mm] 26))) := Bel.al (Bel.al (Below.refl _ _) _) _
  have HMD := hid (fun W (hW : Bel w W) => made_page lv rt hg L ar cap td W (hv.bel hW) hL hk hh)
  clear q1 q2 hv hL hk hh hkk hvv
  go_enter Try.func3, Try.ntmps3
  go_wp2_with (go_at_call 8; refine (speaks_any _).mono ?_; rintro e w2 ⟨rfl, hb1⟩; have E3 := hid (Q2.out.below hb1 Q2.out.lt); have B3 := hid (HB0.out.tr hb1); obtain ⟨r0, r1, r2, r3, r4⟩ := blk_cells5 (Q1.out.below hb1 Q1.out.lt); clear hb1)
  have Z3 := hid E3.out.lt
  clear Q1 Q2 HB0
  refine (HMD.out _ B3.out).mono ?_
  rintro e w3 ⟨p, x, y, rfl, ox, oy, k3, hsm, hkind, hlen, hup⟩
  obtain ⟨a, c, rfl⟩ := row_form ox
  obtain ⟨a2, c2, rfl⟩ := row_form oy
  have HS := hid hsm
  have hsz : w.heap.size + 1 + 1 ≤ w2.heap.size := Z3.out
  have T4 := hid (KB.start (own_base (base' := w.heap.size + 1 + 1) ox hsz) (base43 (base' := w.heap.size + 1 + 1) oy hsz) (B3.out.tr k3) (Nat.lt_of_lt_of_le Z3.out k3.size))
  have kA : Bel w3 ((w3.alloc (.cells #[.int .i64 p.lsn, .int .i64 p.kind, .int .i64 p.level, .int .i64 p.right, .string (M.bs p.high), .slice a p.es.length c] 30)).alloc (.cells #[.int .i64 p.lsn, .int .i64 p.kind, .int .i64 p.level, .int .i64 p.right, .string (M.bs p.high), .slice a2 p.es.length c2] 33)) := Bel.al (Bel.al (Below.refl _ _) _) _
  have E4 := hid (E3.out.below (k3.tr kA) E3.out.lt)
  clear ox oy k3 hsm hup kA r0 r1 r2 r3 r4 E3 B3 HMD Z3 hsz
  have HRT := hid (rright_any p (.slice a2 p.es.length c2) _ HS.out (own_vs43 T4.out.oy) hkind)
  clear hkind
  obtain ⟨ga, hga⟩ : ∃ ga, ga = w3.heap.size := ⟨_, rfl⟩
  rw [← hga] at T4
  obtain ⟨t0, t1, t2, t3, t4, t5⟩ := blk_cells T4.out.b
  go_wp2_with fail
  rw [← hga]
  generalize (w3.alloc (.cells #[.int .i64 p.lsn, .int .i64 p.kind, .int .i64 p.level, .int .i64 p.right, .string (M.bs p.high), .slice a p.es.length c] 30)).alloc (.cells #[.int .i64 p.lsn, .int .i64 p.kind, .int .i64 p.level, .int .i64 p.right, .string (M.bs p.high), .slice a2 p.es.length c2] 33) = w4 at *
  clear hga t0 t1 t2 t3 t4 t5
  refine HRT.out.mono ?_
  rintro e w5 ⟨bb, rfl, hbb, k5⟩
  have T5 := hid (T4.out.bel k5)
  have E5 := hid (E4.out.below k5 E4.out.lt)
  clear k5 T4 E4 HRT
  cases bb with
  | false =>
    go_wp2_with fail
    go_ret
    exact ⟨rfl, T5.out.below⟩
  | true =>
    have HU : Hid (M.Up M.cfS p.es) := by
      have h1 := hbb rfl
      simp only [M.right, Bool.and_eq_true] at h1
      exact up_of_rises h1.1
    clear hbb
    go_wp2_with fail
    have HE6 := E5
    have T6 := T5
    clear E5 T5
    generalize w5 = w6 at *
    refine wp_last fun KL hKL => ?_
    have HL := hid hKL
    clear hKL
    have hzk : (M.bs kk).size = kk.length := M.bs_size _
    have hzv : (M.bs vv).size = vv.length := M.bs_size _
    have cek := cutN kk 80
    have cev := cutN vv 120
    obtain ⟨nk, hnk, hnk'⟩ : ∃ nk : Nat, min (kk.length : Int) 80 = (nk : Int) ∧ nk ≤ kk.length := ⟨min kk.length 80, by omega, by omega⟩
    obtain ⟨nv, hnv, hnv'⟩ : ∃ nv : Nat, min (vv.length : Int) 120 = (nv : Int) ∧ nv ≤ vv.length := ⟨min vv.length 120, by omega, by omega⟩
    rw [show ((80 : Nat) : Int) = 80 from rfl, hnk, Int.toNat_natCast] at cek
    rw [show ((120 : Nat) : Int) = 120 from rfl, hnv, Int.toNat_natCast] at cev
    obtain ⟨hlk, hlv⟩ := HK1.out
    have HXK : Hid ((kk.take 80).length ≤ 80) := by show _ ≤ _; rw [List.length_take]; omega
    have HXV : Hid ((vv.take 120).length ≤ 120) := by show _ ≤ _; rw [List.length_take]; omega
    generalize kk.take 80 = xk at *
    generalize vv.take 120 = xv at *
    refine wp_join (fun a => ((((((((((((((((a.put (some 23) (.pointer (some ⟨w.heap.size + 1, 0, none⟩))).put (some 24) (.string (M.bs kk))).put (some 25) (.pointer (some ⟨w.heap.size + 1, 0, none⟩))).put (some 26) (.string (M.bs kk))).put (some 27) (.int .i64 (kk.length : Nat))).put (some 28) (.int .i64 (nk : Nat))).put (some 29) (.string (M.bs xk))).put (some 30) (.pointer (some ⟨w.heap.size + 1, 1, none⟩))).put (some 31) (.string (M.bs vv))).put (some 32) (.pointer (some ⟨w.heap.size + 1, 1, none⟩))).put (some 33) (.string (M.bs vv))).put (some 34) (.int .i64 (vv.length : Nat))).put (some 35) (.int .i64 (nv : Nat))).put (some 36) (.string (M.bs xv))).put (some 37) (.pointer (some ⟨w.heap.size + 1, 0, none⟩))).put (some 38) (.pointer (some ⟨w.heap.size + 1, 1, none⟩)))) (fun W => Blk W (w.heap.size + 1) #[.string (M.bs xk), .string (M.bs xv), .bool mm] 26 ∧ KB w W ga p (.slice a p.es.length c) (.slice a2 p.es.length c2)) ?_ ?_
    · refine region_until (S := fun W : World => W.cell? ⟨w.heap.size + 1, 1, none⟩ = some (.string (M.bs vv))) (m := 17) (by kernel_rfl) ?_
      have E7 : Hid (Blk w6.drew (w.heap.size + 1) #[.string (M.bs kk), .string (M.bs vv), .bool mm] 26) := HE6.out
      have T7 := hid (T6.out.bel (Bel.dr (Below.refl _ _)))
      generalize w6.drew = w7 at *
      have hS : w7.cell? ⟨w.heap.size + 1, 1, none⟩ = some (.string (M.bs vv)) := by rw [E7.out.cell]; rfl
      have s0 : w7.cell? ⟨w.heap.size + 1, 0, none⟩ = some (.string (M.bs kk)) := by rw [E7.out.cell]; rfl
      refine take_next (i := 0) (.pointer (some ⟨w.heap.size + 1, 0, none⟩)) [1, 6, 15, 17] (by kernel_rfl) (by kernel_rfl) rfl (by kernel_rfl) (by kernel_rfl) (by kernel_rfl) (by kernel_rfl) (fun _ _ _ h => absurd h.1 (by simp)) (Or.inl ⟨by rfl, fun w' hSw => by go_simp⟩) hS ?_
      try simp only [Act.put]
      refine take_next (i := 2) (.pointer (some ⟨w.heap.size + 1, 0, none⟩)) [3, 4, 5, 6, 15, 17] (by kernel_rfl) (by kernel_rfl) rfl (by kernel_rfl) (by kernel_rfl) (by kernel_rfl) (by kernel_rfl) (fun _ _ _ h => absurd h.1 (by simp)) (Or.inl ⟨by rfl, fun w' hSw => by go_simp⟩) hS ?_
      try simp only [Act.put]
      refine take_next (i := 7) (.pointer (some ⟨w.heap.size + 1, 1, none⟩)) [8, 13, 17] (by kernel_rfl) (by kernel_rfl) rfl (by kernel_rfl) (by kernel_rfl) (by kernel_rfl) (by kernel_rfl) (fun _ _ _ h => absurd h.1 (by simp)) (Or.inl ⟨by rfl, fun w' hSw => by go_simp⟩) hS ?_
      try simp only [Act.put]
      refine take_next (i := 8) (.string (M.bs vv)) [13, 17] (by kernel_rfl) (by kernel_rfl) rfl (by kernel_rfl) (by kernel_rfl) (by kernel_rfl) (by kernel_rfl) (fun _ _ _ h => absurd h.1 (by simp)) (Or.inl ⟨by rfl, fun w' hSw => by go_simp⟩) hS ?_
      try simp only [Act.put]
      refine take_next (i := 9) (.pointer (some ⟨w.heap.size + 1, 1, none⟩)) [10, 11, 12, 13, 17] (by kernel_rfl) (by kernel_rfl) rfl (by kernel_rfl) (by kernel_rfl) (by kernel_rfl) (by kernel_rfl) (fun _ _ _ h => absurd h.1 (by simp)) (Or.inl ⟨by rfl, fun w' hSw => by go_simp⟩) hS ?_
      try simp only [Act.put]
      refine take_next (i := 10) (.string (M.bs vv)) [11, 12, 13, 17] (by kernel_rfl) (by kernel_rfl) rfl (by kernel_rfl) (by kernel_rfl) (by kernel_rfl) (by kernel_rfl) (fun _ _ _ h => absurd h.1 (by simp)) (Or.inl ⟨by rfl, fun w' hSw => by go_simp⟩) hS ?_
      try simp only [Act.put]
      refine take_next (i := 11) (.int .i64 (vv.length : Nat)) [12, 13, 17] (by kernel_rfl) (by kernel_rfl) rfl (by kernel_rfl) (by kernel_rfl) (by kernel_rfl) (by kernel_rfl) (fun _ _ _ h => absurd h.1 (by simp)) (Or.inl ⟨by rfl, fun w' hSw => by go_simp⟩) hS ?_
      try simp only [Act.put]
      refine take_next (i := 12) (.int .i64 (nv : Nat)) [13, 17] (by kernel_rfl) (by kernel_rfl) rfl (by kernel_rfl) (by kernel_rfl) (by kernel_rfl) (by kernel_rfl) (fun _ _ _ h => absurd h.1 (by simp)) (Or.inl ⟨by rfl, fun w' hSw => by go_simp⟩) hS ?_
      try simp only [Act.put]
      refine take_next (i := 13) (.string (M.bs xv)) [17] (by kernel_rfl) (by kernel_rfl) rfl (by kernel_rfl) (by kernel_rfl) (by kernel_rfl) (by kernel_rfl) (fun _ _ _ h => absurd h.1 (by simp)) (Or.inl ⟨by rfl, fun w' hSw => by go_simp⟩) hS ?_
      try simp only [Act.put]
      refine until_ready (rs := [1, 3]) (by kernel_rfl) (by simp) ?_
      intro jj hjj
      simp only [List.mem_cons, List.not_mem_nil, or_false] at hjj
      rcases hjj with rfl | rfl
      · skip
        refine wpOp_step rfl (fun KX hKX => ?_)
        have HX := hid hKX
        clear hKX
        go_simp
        refine HX.out _ _ ⟨fun _ => hS, ?_⟩
        clear HX
        try simp only [Act.put]
        refine until_step (j := 3) (by kernel_rfl) rfl (by kernel_rfl) (fun KX hKX => ?_)
        have HX := hid hKX
        clear hKX
        go_simp
        refine HX.out _ _ ⟨fun _ => hS, ?_⟩
        clear HX
        try simp only [Act.put]
        refine until_step (j := 4) (by kernel_rfl) rfl (by kernel_rfl) (fun KX hKX => ?_)
        have HX := hid hKX
        clear hKX
        go_simp
        refine HX.out _ _ ⟨fun _ => hS, ?_⟩
        clear HX
        try simp only [Act.put]
        refine until_step (j := 5) (by kernel_rfl) rfl (by kernel_rfl) (fun KX hKX => ?_)
        have HX := hid hKX
        clear hKX
        go_simp
        refine HX.out _ _ ⟨fun _ => hS, ?_⟩
        clear HX
        try simp only [Act.put]
        refine until_step (j := 6) (by kernel_rfl) rfl (by kernel_rfl) (fun KX hKX => ?_)
        have HX := hid hKX
        clear hKX
        go_simp
        refine HX.out _ _ ⟨fun _ => hS, ?_⟩
        clear HX
        try simp only [Act.put]
        refine until_step (j := 14) (by kernel_rfl) rfl (by kernel_rfl) (fun KX hKX => ?_)
        have HX := hid hKX
        clear hKX
        go_simp
        refine HX.out _ _ ⟨fun _ => hS, ?_⟩
        clear HX
        try simp only [Act.put]
        have z0 := E7.out.frozen 0
        refine until_step (j := 15) (by kernel_rfl) rfl (by kernel_rfl) (fun KX hKX => ?_)
        have HX := hid hKX
        clear hKX
        go_simp
        have V1 : Hid (Blk (w7.setCell ⟨w.heap.size + 1, 0, none⟩ (.string (M.bs xk))) (w.heap.size + 1) #[.string (M.bs xk), .string (M.bs vv), .bool mm] 26) := hid (by
          have z := E7.out.set 0 (.string (M.bs xk))
          simpa using z)
        have VT := hid (T7.out.other (B := w.heap.size + 1) rfl trivial 0 (.string (M.bs xk)))
        have hS' : (w7.setCell ⟨w.heap.size + 1, 0, none⟩ (.string (M.bs xk))).cell? ⟨w.heap.size + 1, 1, none⟩ = some (.string (M.bs vv)) := by rw [V1.out.cell]; rfl
        refine HX.out _ _ ⟨fun _ => hS', ?_⟩
        clear HX E7 T7 z0 s0 hS
        generalize w7.setCell ⟨w.heap.size + 1, 0, none⟩ (.string (M.bs xk)) = w7b at *
        try simp only [Act.put]
        have z1 := V1.out.frozen 1
        refine until_step (j := 16) (by kernel_rfl) rfl (by kernel_rfl) (fun KX hKX => ?_)
        have HX := hid hKX
        clear hKX
        go_simp
        refine HX.out _ _ ⟨fun _ => hS', ?_⟩
        clear HX
        try simp only [Act.put]
        refine until_step (j := 17) (by kernel_rfl) rfl (by kernel_rfl) (fun KX hKX => ?_)
        have HX := hid hKX
        clear hKX
        go_simp
        have U1 : Hid (Blk (w7b.setCell ⟨w.heap.size + 1, 1, none⟩ (.string (M.bs xv))) (w.heap.size + 1) #[.string (M.bs xk), .string (M.bs xv), .bool mm] 26) := hid (by
          have z := V1.out.set 1 (.string (M.bs xv))
          simpa using z)
        have UT := hid (VT.out.other (B := w.heap.size + 1) rfl trivial 1 (.string (M.bs xv)))
        refine HX.out _ _ ⟨(fun h => by cases (Eq.trans (Eq.symm (show _ = true by kernel_rfl)) h)), ?_⟩
        clear HX
        refine until_done (by kernel_rfl) ⟨rfl, ?_⟩ _
        exact ⟨by kernel_rfl, U1.out, UT.out⟩
      · skip
        refine wpOp_step rfl (fun KX hKX => ?_)
        have HX := hid hKX
        clear hKX
        go_simp
        refine HX.out _ _ ⟨fun _ => hS, ?_⟩
        clear HX
        try simp only [Act.put]
        refine until_ready (rs := [1, 4]) (by kernel_rfl) (by simp) ?_
        intro jj hjj
        simp only [List.mem_cons, List.not_mem_nil, or_false] at hjj
        rcases hjj with rfl | rfl
        · skip
          refine wpOp_step rfl (fun KX hKX => ?_)
          have HX := hid hKX
          clear hKX
          go_simp
          refine HX.out _ _ ⟨fun _ => hS, ?_⟩
          clear HX
          try simp only [Act.put]
          refine until_step (j := 4) (by kernel_rfl) rfl (by kernel_rfl) (fun KX hKX => ?_)
          have HX := hid hKX
          clear hKX
          go_simp
          refine HX.out _ _ ⟨fun _ => hS, ?_⟩
          clear HX
          try simp only [Act.put]
          refine until_step (j := 5) (by kernel_rfl) rfl (by kernel_rfl) (fun KX hKX => ?_)
          have HX := hid hKX
          clear hKX
          go_simp
          refine HX.out _ _ ⟨fun _ => hS, ?_⟩
          clear HX
          try simp only [Act.put]
          refine until_step (j := 6) (by kernel_rfl) rfl (by kernel_rfl) (fun KX hKX => ?_)
          have HX := hid hKX
          clear hKX
          go_simp
          refine HX.out _ _ ⟨fun _ => hS, ?_⟩
          clear HX
          try simp only [Act.put]
          refine until_step (j := 14) (by kernel_rfl) rfl (by kernel_rfl) (fun KX hKX => ?_)
          have HX := hid hKX
          clear hKX
          go_simp
          refine HX.out _ _ ⟨fun _ => hS, ?_⟩
          clear HX
          try simp only [Act.put]
          have z0 := E7.out.frozen 0
          refine until_step (j := 15) (by kernel_rfl) rfl (by kernel_rfl) (fun KX hKX => ?_)
          have HX := hid hKX
          clear hKX
          go_simp
          have V1 : Hid (Blk (w7.setCell ⟨w.heap.size + 1, 0, none⟩ (.string (M.bs xk))) (w.heap.size + 1) #[.string (M.bs xk), .string (M.bs vv), .bool mm] 26) := hid (by
            have z := E7.out.set 0 (.string (M.bs xk))
            simpa using z)
          have VT := hid (T7.out.other (B := w.heap.size + 1) rfl trivial 0 (.string (M.bs xk)))
          have hS' : (w7.setCell ⟨w.heap.size + 1, 0, none⟩ (.string (M.bs xk))).cell? ⟨w.heap.size + 1, 1, none⟩ = some (.string (M.bs vv)) := by rw [V1.out.cell]; rfl
          refine HX.out _ _ ⟨fun _ => hS', ?_⟩
          clear HX E7 T7 z0 s0 hS
          generalize w7.setCell ⟨w.heap.size + 1, 0, none⟩ (.string (M.bs xk)) = w7b at *
          try simp only [Act.put]
          have z1 := V1.out.frozen 1
          refine until_step (j := 16) (by kernel_rfl) rfl (by kernel_rfl) (fun KX hKX => ?_)
          have HX := hid hKX
          clear hKX
          go_simp
          refine HX.out _ _ ⟨fun _ => hS', ?_⟩
          clear HX
          try simp only [Act.put]
          refine until_step (j := 17) (by kernel_rfl) rfl (by kernel_rfl) (fun KX hKX => ?_)
          have HX := hid hKX
          clear hKX
          go_simp
          have U1 : Hid (Blk (w7b.setCell ⟨w.heap.size + 1, 1, none⟩ (.string (M.bs xv))) (w.heap.size + 1) #[.string (M.bs xk), .string (M.bs xv), .bool mm] 26) := hid (by
            have z := V1.out.set 1 (.string (M.bs xv))
            simpa using z)
          have UT := hid (VT.out.other (B := w.heap.size + 1) rfl trivial 1 (.string (M.bs xv)))
          refine HX.out _ _ ⟨(fun h => by cases (Eq.trans (Eq.symm (show _ = true by kernel_rfl)) h)), ?_⟩
          clear HX
          refine until_done (by kernel_rfl) ⟨rfl, ?_⟩ _
          exact ⟨by kernel_rfl, U1.out, UT.out⟩
        · skip
          refine wpOp_step rfl (fun KX hKX => ?_)
          have HX := hid hKX
          clear hKX
          go_simp
          refine HX.out _ _ ⟨fun _ => hS, ?_⟩
          clear HX
          try simp only [Act.put]
          refine until_ready (rs := [1, 5]) (by kernel_rfl) (by simp) ?_
          intro jj hjj
          simp only [List.mem_cons, List.not_mem_nil, or_false] at hjj
          rcases hjj with rfl | rfl
          · skip
            refine wpOp_step rfl (fun KX hKX => ?_)
            have HX := hid hKX
            clear hKX
            go_simp
            refine HX.out _ _ ⟨fun _ => hS, ?_⟩
            clear HX
            try simp only [Act.put]
            refine until_step (j := 5) (by kernel_rfl) rfl (by kernel_rfl) (fun KX hKX => ?_)
            have HX := hid hKX
            clear hKX
            go_simp
            refine HX.out _ _ ⟨fun _ => hS, ?_⟩
            clear HX
            try simp only [Act.put]
            refine until_step (j := 6) (by kernel_rfl) rfl (by kernel_rfl) (fun KX hKX => ?_)
            have HX := hid hKX
            clear hKX
            go_simp
            refine HX.out _ _ ⟨fun _ => hS, ?_⟩
            clear HX
            try simp only [Act.put]
            refine until_step (j := 14) (by kernel_rfl) rfl (by kernel_rfl) (fun KX hKX => ?_)
            have HX := hid hKX
            clear hKX
            go_simp
            refine HX.out _ _ ⟨fun _ => hS, ?_⟩
            clear HX
            try simp only [Act.put]
            have z0 := E7.out.frozen 0
            refine until_step (j := 15) (by kernel_rfl) rfl (by kernel_rfl) (fun KX hKX => ?_)
            have HX := hid hKX
            clear hKX
            go_simp
            have V1 : Hid (Blk (w7.setCell ⟨w.heap.size + 1, 0, none⟩ (.string (M.bs xk))) (w.heap.size + 1) #[.string (M.bs xk), .string (M.bs vv), .bool mm] 26) := hid (by
              have z := E7.out.set 0 (.string (M.bs xk))
              simpa using z)
            have VT := hid (T7.out.other (B := w.heap.size + 1) rfl trivial 0 (.string (M.bs xk)))
            have hS' : (w7.setCell ⟨w.heap.size + 1, 0, none⟩ (.string (M.bs xk))).cell? ⟨w.heap.size + 1, 1, none⟩ = some (.string (M.bs vv)) := by rw [V1.out.cell]; rfl
            refine HX.out _ _ ⟨fun _ => hS', ?_⟩
            clear HX E7 T7 z0 s0 hS
            generalize w7.setCell ⟨w.heap.size + 1, 0, none⟩ (.string (M.bs xk)) = w7b at *
            try simp only [Act.put]
            have z1 := V1.out.frozen 1
            refine until_step (j := 16) (by kernel_rfl) rfl (by kernel_rfl) (fun KX hKX => ?_)
            have HX := hid hKX
            clear hKX
            go_simp
            refine HX.out _ _ ⟨fun _ => hS', ?_⟩
            clear HX
            try simp only [Act.put]
            refine until_step (j := 17) (by kernel_rfl) rfl (by kernel_rfl) (fun KX hKX => ?_)
            have HX := hid hKX
            clear hKX
            go_simp
            have U1 : Hid (Blk (w7b.setCell ⟨w.heap.size + 1, 1, none⟩ (.string (M.bs xv))) (w.heap.size + 1) #[.string (M.bs xk), .string (M.bs xv), .bool mm] 26) := hid (by
              have z := V1.out.set 1 (.string (M.bs xv))
              simpa using z)
            have UT := hid (VT.out.other (B := w.heap.size + 1) rfl trivial 1 (.string (M.bs xv)))
            refine HX.out _ _ ⟨(fun h => by cases (Eq.trans (Eq.symm (show _ = true by kernel_rfl)) h)), ?_⟩
            clear HX
            refine until_done (by kernel_rfl) ⟨rfl, ?_⟩ _
            exact ⟨by kernel_rfl, U1.out, UT.out⟩
          · skip
            refine wpOp_step rfl (fun KX hKX => ?_)
            have HX := hid hKX
            clear hKX
            go_simp
            refine HX.out _ _ ⟨fun _ => hS, ?_⟩
            clear HX
            try simp only [Act.put]
            refine until_step (j := 1) (by kernel_rfl) rfl (by kernel_rfl) (fun KX hKX => ?_)
            have HX := hid hKX
            clear hKX
            go_simp
            refine HX.out _ _ ⟨fun _ => hS, ?_⟩
            clear HX
            try simp only [Act.put]
            refine until_step (j := 6) (by kernel_rfl) rfl (by kernel_rfl) (fun KX hKX => ?_)
            have HX := hid hKX
            clear hKX
            go_simp
            refine HX.out _ _ ⟨fun _ => hS, ?_⟩
            clear HX
            try simp only [Act.put]
            refine until_step (j := 14) (by kernel_rfl) rfl (by kernel_rfl) (fun KX hKX => ?_)
            have HX := hid hKX
            clear hKX
            go_simp
            refine HX.out _ _ ⟨fun _ => hS, ?_⟩
            clear HX
            try simp only [Act.put]
            have z0 := E7.out.frozen 0
            refine until_step (j := 15) (by kernel_rfl) rfl (by kernel_rfl) (fun KX hKX => ?_)
            have HX := hid hKX
            clear hKX
            go_simp
            have V1 : Hid (Blk (w7.setCell ⟨w.heap.size + 1, 0, none⟩ (.string (M.bs xk))) (w.heap.size + 1) #[.string (M.bs xk), .string (M.bs vv), .bool mm] 26) := hid (by
              have z := E7.out.set 0 (.string (M.bs xk))
              simpa using z)
            have VT := hid (T7.out.other (B := w.heap.size + 1) rfl trivial 0 (.string (M.bs xk)))
            have hS' : (w7.setCell ⟨w.heap.size + 1, 0, none⟩ (.string (M.bs xk))).cell? ⟨w.heap.size + 1, 1, none⟩ = some (.string (M.bs vv)) := by rw [V1.out.cell]; rfl
            refine HX.out _ _ ⟨fun _ => hS', ?_⟩
            clear HX E7 T7 z0 s0 hS
            generalize w7.setCell ⟨w.heap.size + 1, 0, none⟩ (.string (M.bs xk)) = w7b at *
            try simp only [Act.put]
            have z1 := V1.out.frozen 1
            refine until_step (j := 16) (by kernel_rfl) rfl (by kernel_rfl) (fun KX hKX => ?_)
            have HX := hid hKX
            clear hKX
            go_simp
            refine HX.out _ _ ⟨fun _ => hS', ?_⟩
            clear HX
            try simp only [Act.put]
            refine until_step (j := 17) (by kernel_rfl) rfl (by kernel_rfl) (fun KX hKX => ?_)
            have HX := hid hKX
            clear hKX
            go_simp
            have U1 : Hid (Blk (w7b.setCell ⟨w.heap.size + 1, 1, none⟩ (.string (M.bs xv))) (w.heap.size + 1) #[.string (M.bs xk), .string (M.bs xv), .bool mm] 26) := hid (by
              have z := V1.out.set 1 (.string (M.bs xv))
              simpa using z)
            have UT := hid (VT.out.other (B := w.heap.size + 1) rfl trivial 1 (.string (M.bs xv)))
            refine HX.out _ _ ⟨(fun h => by cases (Eq.trans (Eq.symm (show _ = true by kernel_rfl)) h)), ?_⟩
            clear HX
            refine until_done (by kernel_rfl) ⟨rfl, ?_⟩ _
            exact ⟨by kernel_rfl, U1.out, UT.out⟩
    clear hzk hzv cek cev hnk hnv hlk hlv HE6 T6
    rintro w8 ⟨hE8, hT8⟩
    have E8 := hid hE8
    have T8 := hid hT8
    clear hE8 hT8
    refine HL.out _ _ ?_
    clear HL
    try simp only [Act.put]
    obtain ⟨r, en, hsr, hB⟩ := ins_both HS.out (by omega) HU.out xk xv mm HXK.out HXV.out
    have HSR := hid hsr
    have HI1 := hid (show ∀ x w, Vs w x p.es → Calls Try.prog 11 #[pv p x, ev (xk, xv, mm)] w _ from hB.1)
    have HI2 := hid (show ∀ x w, Vs w x p.es → Calls Try.prog 12 #[pv p x, ev (xk, xv, mm)] w _ from hB.2)
    clear hsr hB
    obtain ⟨k0, k1, k2⟩ := blk_cells3 E8.out
    obtain ⟨t0, t1, t2, t3, t4, t5⟩ := blk_cells T8.out.a
    go_wp2_with fail
    refine (HI1.out _ w8 (own_vs T8.out.ox)).mono ?_
    rintro e w9 ⟨x9, rfl, o9, k9⟩
    obtain ⟨a9, c9, rfl⟩ := row_form o9
    have kB : Bel w9 (w9.alloc (.cells #[.int .i64 r.lsn, .int .i64 r.kind, .int .i64 r.level, .int .i64 r.right, .string (M.bs r.high), .slice a9 r.es.length c9] 30)) := Bel.al (Below.refl _ _) _
    have T10 := hid (T8.out.bel (k9.tr kB))
    have E10 := hid (E8.out.below (k9.tr kB) E8.out.lt)
    have O10 := hid (own_bel (own_base (base' := w.heap.size + 1 + 1) o9 (by have := E8.out.lt; omega)) kB)
    obtain ⟨gc, hgc⟩ : ∃ g, g = w9.heap.size := ⟨_, rfl⟩
    have N10 : Hid (Blk (w9.alloc (.cells #[.int .i64 r.lsn, .int .i64 r.kind, .int .i64 r.level, .int .i64 r.right, .string (M.bs r.high), .slice a9 r.es.length c9] 30)) gc #[.int .i64 r.lsn, .int .i64 r.kind, .int .i64 r.level, .int .i64 r.right, .string (M.bs r.high), .slice a9 r.es.length c9] 30) := by rw [hgc]; exact Blk.new _ _ _
    have ZC : Hid (ga + 1 < gc) := by show _ < _; rw [hgc]; exact Nat.lt_of_lt_of_le T8.out.b.lt k9.size
    clear k9 kB o9 T8 E8 HI1 k0 k1 k2 t0 t1 t2 t3 t4 t5
    obtain ⟨k0, k1, k2⟩ := blk_cells3 E10.out
    obtain ⟨t0, t1, t2, t3, t4, t5⟩ := blk_cells T10.out.b
    go_wp2_with fail
    rw [← hgc]
    generalize w9.alloc (.cells #[.int .i64 r.lsn, .int .i64 r.kind, .int .i64 r.level, .int .i64 r.right, .string (M.bs r.high), .slice a9 r.es.length c9] 30) = w10 at *
    clear hgc
    refine (HI2.out _ w10 (own_vs43 T10.out.oy)).mono ?_
    rintro e w11 ⟨y11, rfl, o11, k11⟩
    obtain ⟨a11, c11, rfl⟩ := row_form o11
    have kB : Bel w11 (w11.alloc (.cells #[.int .i64 r.lsn, .int .i64 r.kind, .int .i64 r.level, .int .i64 r.right, .string (M.bs r.high), .slice a11 r.es.length c11] 33)) := Bel.al (Below.refl _ _) _
    obtain ⟨gd, hgd⟩ : ∃ g, g = w11.heap.size := ⟨_, rfl⟩
    have L12 : Hid (LB w (w11.alloc (.cells #[.int .i64 r.lsn, .int .i64 r.kind, .int .i64 r.level, .int .i64 r.right, .string (M.bs r.high), .slice a11 r.es.length c11] 33)) ga p (.slice a p.es.length c) (.slice a2 p.es.length c2) gc gd r r (.slice a9 r.es.length c9) (.slice a11 r.es.length c11)) := ⟨T10.out.bel (k11.tr kB), N10.out.below (k11.tr kB) N10.out.lt, by rw [hgd]; exact Blk.new _ _ _, own_bel O10.out (k11.tr kB), bel43 (base43 (base' := w.heap.size + 1 + 1) o11 (by have := E10.out.lt; omega)) kB, ZC.out, by rw [hgd]; exact Nat.lt_of_lt_of_le N10.out.lt k11.size⟩
    have E12 := hid (E10.out.below (k11.tr kB) E10.out.lt)
    clear k11 kB o11 T10 E10 N10 O10 HI2 ZC k0 k1 k2 t0 t1 t2 t3 t4 t5
    obtain ⟨t0, t1, t2, t3, t4, t5⟩ := blk_cells L12.out.c
    obtain ⟨v0, v1, v2, v3, v4, v5⟩ := blk_cells L12.out.d
    go_wp2_with fail
    rw [← hgd]
    generalize w11.alloc (.cells #[.int .i64 r.lsn, .int .i64 r.kind, .int .i64 r.level, .int .i64 r.right, .string (M.bs r.high), .slice a11 r.es.length c11] 33) = w12 at *
    clear hgd
    refine (same_any r (.slice a9 r.es.length c9) (.slice a11 r.es.length c11) w12 HSR.out (own_vs L12.out.ou).vals (own_vs43 L12.out.ov).vals).mono ?_
    rintro e w13 ⟨rfl, ka⟩
    have La := hid (L12.out.bel ka)
    have Ea := hid (E12.out.below ka E12.out.lt)
    clear ka L12 E12 t0 t1 t2 t3 t4 t5 v0 v1 v2 v3 v4 v5
    obtain ⟨t0, t1, t2, t3, t4, t5⟩ := blk_cells La.out.k.a
    obtain ⟨v0, v1, v2, v3, v4, v5⟩ := blk_cells La.out.k.b
    go_wp2_with fail
    refine (same_any p (.slice a p.es.length c) (.slice a2 p.es.length c2) w13 HS.out (own_vs La.out.k.ox).vals (own_vs43 La.out.k.oy).vals).mono ?_
    rintro e w14 ⟨rfl, kb⟩
    have L14 := hid (La.out.bel kb)
    have E14 := hid (Ea.out.below kb Ea.out.lt)
    clear kb La Ea t0 t1 t2 t3 t4 t5 v0 v1 v2 v3 v4 v5
    obtain ⟨r2, en2, hsr, hB⟩ := mark_both HS.out HU.out xk ms
    have HSr2 := hid hsr
    have HI1 := hid (show ∀ x w, Vs w x p.es → Calls Try.prog 14 #[pv p x, .string (M.bs xk), .bool ms] w _ from hB.1)
    have HI2 := hid (show ∀ x w, Vs w x p.es → Calls Try.prog 15 #[pv p x, .string (M.bs xk), .bool ms] w _ from hB.2)
    clear hsr hB
    obtain ⟨k0, k1, k2⟩ := blk_cells3 E14.out
    obtain ⟨t0, t1, t2, t3, t4, t5⟩ := blk_cells L14.out.k.a
    go_wp2_with fail
    refine (HI1.out _ w14 (own_vs L14.out.k.ox)).mono ?_
    rintro e w20 ⟨xx, rfl, oo, kk1⟩
    obtain ⟨a20, c20, rfl⟩ := row_form oo
    have Lb := hid (L14.out.bel kk1)
    have Eb := hid (E14.out.below kk1 E14.out.lt)
    have Zb : Hid (w.heap.size + 1 + 1 ≤ w14.heap.size) := by have := E14.out.lt; exact this
    have Ob := hid oo
    clear kk1 oo L14 E14 k0 k1 k2 t0 t1 t2 t3 t4 t5
    have hth : w20.there gc 0 (#[.int .i64 r2.lsn, .int .i64 r2.kind, .int .i64 r2.level, .int .i64 r2.right, .string (M.bs r2.high), .slice a20 r2.es.length c20] : Array Value).size := fun j hj => by
      rw [Lb.out.c.cell, Lb.out.c.frozen]
      refine ⟨?_, rfl⟩
      have : j < 6 := hj
      simp
      omega
    have hone : (#[.int .i64 r2.lsn, .int .i64 r2.kind, .int .i64 r2.level, .int .i64 r2.right, .string (M.bs r2.high), .slice a20 r2.es.length c20] : Array Value).all (·.oneCell') = true := by simp [Value.oneCell']
    have hi6 : (Try.prog.info? 30).map (·.size) = some (#[.int .i64 r2.lsn, .int .i64 r2.kind, .int .i64 r2.level, .int .i64 r2.right, .string (M.bs r2.high), .slice a20 r2.es.length c20] : Array Value).size := by rw [info30]; rfl
    go_wp2_with (refine wpList_store_mid rfl 30 (.tmp 9) (.tmp 72) rfl gc 0 #[.int .i64 r2.lsn, .int .i64 r2.kind, .int .i64 r2.level, .int .i64 r2.right, .string (M.bs r2.high), .slice a20 r2.es.length c20] (by rfl) (by rfl) hth hi6 hone ?_; simp only [World.setCells, Nat.zero_add, Nat.reduceAdd]; obtain ⟨w21, hwo⟩ : ∃ q, q = ((((((w20.setCell ⟨gc, 0, none⟩ (.int .i64 r2.lsn)).setCell ⟨gc, 1, none⟩ (.int .i64 r2.kind)).setCell ⟨gc, 2, none⟩ (.int .i64 r2.level)).setCell ⟨gc, 3, none⟩ (.int .i64 r2.right)).setCell ⟨gc, 4, none⟩ (.string (M.bs r2.high))).setCell ⟨gc, 5, none⟩ (.slice a20 r2.es.length c20)) := ⟨_, rfl⟩; rw [← hwo]; have L21 := hid (Lb.out.putc Ob.out Zb.out); rw [← hwo] at L21; have E21 := hid (other6 Eb.out (show w.heap.size + 1 ≠ gc by have h1 := Lb.out.lt; have h2 := Lb.out.lt2; have h3 := Lb.out.k.lt; omega) (.int .i64 r2.lsn) (.int .i64 r2.kind) (.int .i64 r2.level) (.int .i64 r2.right) (.string (M.bs r2.high)) (.slice a20 r2.es.length c20)); rw [← hwo] at E21; clear hwo Lb Eb Ob Zb hth hone hi6; obtain ⟨k0, k1, k2⟩ := blk_cells3 E21.out; obtain ⟨t0, t1, t2, t3, t4, t5⟩ := blk_cells L21.out.k.b)
    refine (HI2.out _ w21 (own_vs43 L21.out.k.oy)).mono ?_
    rintro e w22 ⟨xx, rfl, oo, kk1⟩
    obtain ⟨a22, c22, rfl⟩ := row_form oo
    have Lb := hid (L21.out.bel kk1)
    have Eb := hid (E21.out.below kk1 E21.out.lt)
    have Zb : Hid (w.heap.size + 1 + 1 ≤ w21.heap.size) := by have := E21.out.lt; exact this
    have Ob := hid oo
    clear kk1 oo L21 E21 k0 k1 k2 t0 t1 t2 t3 t4 t5
    have hth : w22.there gd 0 (#[.int .i64 r2.lsn, .int .i64 r2.kind, .int .i64 r2.level, .int .i64 r2.right, .string (M.bs r2.high), .slice a22 r2.es.length c22] : Array Value).size := fun j hj => by
      rw [Lb.out.d.cell, Lb.out.d.frozen]
      refine ⟨?_, rfl⟩
      have : j < 6 := hj
      simp
      omega
    have hone : (#[.int .i64 r2.lsn, .int .i64 r2.kind, .int .i64 r2.level, .int .i64 r2.right, .string (M.bs r2.high), .slice a22 r2.es.length c22] : Array Value).all (·.oneCell') = true := by simp [Value.oneCell']
    have hi6 : (Try.prog.info? 33).map (·.size) = some (#[.int .i64 r2.lsn, .int .i64 r2.kind, .int .i64 r2.level, .int .i64 r2.right, .string (M.bs r2.high), .slice a22 r2.es.length c22] : Array Value).size := by rw [info33]; rfl
    go_wp2_with (refine wpList_store_mid rfl 33 (.tmp 11) (.tmp 80) rfl gd 0 #[.int .i64 r2.lsn, .int .i64 r2.kind, .int .i64 r2.level, .int .i64 r2.right, .string (M.bs r2.high), .slice a22 r2.es.length c22] (by rfl) (by rfl) hth hi6 hone ?_; simp only [World.setCells, Nat.zero_add, Nat.reduceAdd]; obtain ⟨w23, hwo⟩ : ∃ q, q = ((((((w22.setCell ⟨gd, 0, none⟩ (.int .i64 r2.lsn)).setCell ⟨gd, 1, none⟩ (.int .i64 r2.kind)).setCell ⟨gd, 2, none⟩ (.int .i64 r2.level)).setCell ⟨gd, 3, none⟩ (.int .i64 r2.right)).setCell ⟨gd, 4, none⟩ (.string (M.bs r2.high))).setCell ⟨gd, 5, none⟩ (.slice a22 r2.es.length c22)) := ⟨_, rfl⟩; rw [← hwo]; have L23 := hid (Lb.out.putd Ob.out Zb.out); rw [← hwo] at L23; have E23 := hid (other6 Eb.out (show w.heap.size + 1 ≠ gd by have h1 := Lb.out.lt; have h2 := Lb.out.lt2; have h3 := Lb.out.k.lt; omega) (.int .i64 r2.lsn) (.int .i64 r2.kind) (.int .i64 r2.level) (.int .i64 r2.right) (.string (M.bs r2.high)) (.slice a22 r2.es.length c22)); rw [← hwo] at E23; clear hwo Lb Eb Ob Zb hth hone hi6; obtain ⟨t0, t1, t2, t3, t4, t5⟩ := blk_cells L23.out.c; obtain ⟨v0, v1, v2, v3, v4, v5⟩ := blk_cells L23.out.d)
    clear HI1 HI2
    refine (same_any r2 (.slice a20 r2.es.length c20) (.slice a22 r2.es.length c22) w23 HSr2.out (own_vs L23.out.ou).vals (own_vs43 L23.out.ov).vals).mono ?_
    rintro e w30 ⟨rfl, ka⟩
    have La := hid (L23.out.bel ka)
    have Ea := hid (E23.out.below ka E23.out.lt)
    clear ka L23 E23 t0 t1 t2 t3 t4 t5 v0 v1 v2 v3 v4 v5
    obtain ⟨t0, t1, t2, t3, t4, t5⟩ := blk_cells La.out.k.a
    obtain ⟨v0, v1, v2, v3, v4, v5⟩ := blk_cells La.out.k.b
    go_wp2_with fail
    refine (same_any p (.slice a p.es.length c) (.slice a2 p.es.length c2) w30 HS.out (own_vs La.out.k.ox).vals (own_vs43 La.out.k.oy).vals).mono ?_
    rintro e w31 ⟨rfl, kb⟩
    have L31 := hid (La.out.bel kb)
    have E31 := hid (Ea.out.below kb Ea.out.lt)
    clear kb La Ea t0 t1 t2 t3 t4 t5 v0 v1 v2 v3 v4 v5
    obtain ⟨r3, en3, hsr, hB⟩ := rem_both HS.out (by omega) HU.out xk
    have HSr3 := hid hsr
    have HI1 := hid (show ∀ x w, Vs w x p.es → Calls Try.prog 16 #[pv p x, .string (M.bs xk)] w _ from hB.1)
    have HI2 := hid (show ∀ x w, Vs w x p.es → Calls Try.prog 17 #[pv p x, .string (M.bs xk)] w _ from hB.2)
    clear hsr hB
    obtain ⟨k0, k1, k2⟩ := blk_cells3 E31.out
    obtain ⟨t0, t1, t2, t3, t4, t5⟩ := blk_cells L31.out.k.a
    go_wp2_with fail
    refine (HI1.out _ w31 (own_vs L31.out.k.ox)).mono ?_
    rintro e w40 ⟨xx, rfl, oo, kk1⟩
    obtain ⟨a40, c40, rfl⟩ := row_form oo
    have Lb := hid (L31.out.bel kk1)
    have Eb := hid (E31.out.below kk1 E31.out.lt)
    have Zb : Hid (w.heap.size + 1 + 1 ≤ w31.heap.size) := by have := E31.out.lt; exact this
    have Ob := hid oo
    clear kk1 oo L31 E31 k0 k1 k2 t0 t1 t2 t3 t4 t5
    have hth : w40.there gc 0 (#[.int .i64 r3.lsn, .int .i64 r3.kind, .int .i64 r3.level, .int .i64 r3.right, .string (M.bs r3.high), .slice a40 r3.es.length c40] : Array Value).size := fun j hj => by
      rw [Lb.out.c.cell, Lb.out.c.frozen]
      refine ⟨?_, rfl⟩
      have : j < 6 := hj
      simp
      omega
    have hone : (#[.int .i64 r3.lsn, .int .i64 r3.kind, .int .i64 r3.level, .int .i64 r3.right, .string (M.bs r3.high), .slice a40 r3.es.length c40] : Array Value).all (·.oneCell') = true := by simp [Value.oneCell']
    have hi6 : (Try.prog.info? 30).map (·.size) = some (#[.int .i64 r3.lsn, .int .i64 r3.kind, .int .i64 r3.level, .int .i64 r3.right, .string (M.bs r3.high), .slice a40 r3.es.length c40] : Array Value).size := by rw [info30]; rfl
    go_wp2_with (refine wpList_store_mid rfl 30 (.tmp 9) (.tmp 102) rfl gc 0 #[.int .i64 r3.lsn, .int .i64 r3.kind, .int .i64 r3.level, .int .i64 r3.right, .string (M.bs r3.high), .slice a40 r3.es.length c40] (by rfl) (by rfl) hth hi6 hone ?_; simp only [World.setCells, Nat.zero_add, Nat.reduceAdd]; obtain ⟨w41, hwo⟩ : ∃ q, q = ((((((w40.setCell ⟨gc, 0, none⟩ (.int .i64 r3.lsn)).setCell ⟨gc, 1, none⟩ (.int .i64 r3.kind)).setCell ⟨gc, 2, none⟩ (.int .i64 r3.level)).setCell ⟨gc, 3, none⟩ (.int .i64 r3.right)).setCell ⟨gc, 4, none⟩ (.string (M.bs r3.high))).setCell ⟨gc, 5, none⟩ (.slice a40 r3.es.length c40)) := ⟨_, rfl⟩; rw [← hwo]; have L41 := hid (Lb.out.putc Ob.out Zb.out); rw [← hwo] at L41; have E41 := hid (other6 Eb.out (show w.heap.size + 1 ≠ gc by have h1 := Lb.out.lt; have h2 := Lb.out.lt2; have h3 := Lb.out.k.lt; omega) (.int .i64 r3.lsn) (.int .i64 r3.kind) (.int .i64 r3.level) (.int .i64 r3.right) (.string (M.bs r3.high)) (.slice a40 r3.es.length c40)); rw [← hwo] at E41; clear hwo Lb Eb Ob Zb hth hone hi6; obtain ⟨k0, k1, k2⟩ := blk_cells3 E41.out; obtain ⟨t0, t1, t2, t3, t4, t5⟩ := blk_cells L41.out.k.b)
    refine (HI2.out _ w41 (own_vs43 L41.out.k.oy)).mono ?_
    rintro e w42 ⟨xx, rfl, oo, kk1⟩
    obtain ⟨a42, c42, rfl⟩ := row_form oo
    have Lb := hid (L41.out.bel kk1)
    have Eb := hid (E41.out.below kk1 E41.out.lt)
    have Zb : Hid (w.heap.size + 1 + 1 ≤ w41.heap.size) := by have := E41.out.lt; exact this
    have Ob := hid oo
    clear kk1 oo L41 E41 k0 k1 k2 t0 t1 t2 t3 t4 t5
    have hth : w42.there gd 0 (#[.int .i64 r3.lsn, .int .i64 r3.kind, .int .i64 r3.level, .int .i64 r3.right, .string (M.bs r3.high), .slice a42 r3.es.length c42] : Array Value).size := fun j hj => by
      rw [Lb.out.d.cell, Lb.out.d.frozen]
      refine ⟨?_, rfl⟩
      have : j < 6 := hj
      simp
      omega
    have hone : (#[.int .i64 r3.lsn, .int .i64 r3.kind, .int .i64 r3.level, .int .i64 r3.right, .string (M.bs r3.high), .slice a42 r3.es.length c42] : Array Value).all (·.oneCell') = true := by simp [Value.oneCell']
    have hi6 : (Try.prog.info? 33).map (·.size) = some (#[.int .i64 r3.lsn, .int .i64 r3.kind, .int .i64 r3.level, .int .i64 r3.right, .string (M.bs r3.high), .slice a42 r3.es.length c42] : Array Value).size := by rw [info33]; rfl
    go_wp2_with (refine wpList_store_mid rfl 33 (.tmp 11) (.tmp 109) rfl gd 0 #[.int .i64 r3.lsn, .int .i64 r3.kind, .int .i64 r3.level, .int .i64 r3.right, .string (M.bs r3.high), .slice a42 r3.es.length c42] (by rfl) (by rfl) hth hi6 hone ?_; simp only [World.setCells, Nat.zero_add, Nat.reduceAdd]; obtain ⟨w43, hwo⟩ : ∃ q, q = ((((((w42.setCell ⟨gd, 0, none⟩ (.int .i64 r3.lsn)).setCell ⟨gd, 1, none⟩ (.int .i64 r3.kind)).setCell ⟨gd, 2, none⟩ (.int .i64 r3.level)).setCell ⟨gd, 3, none⟩ (.int .i64 r3.right)).setCell ⟨gd, 4, none⟩ (.string (M.bs r3.high))).setCell ⟨gd, 5, none⟩ (.slice a42 r3.es.length c42)) := ⟨_, rfl⟩; rw [← hwo]; have L43 := hid (Lb.out.putd Ob.out Zb.out); rw [← hwo] at L43; have E43 := hid (other6 Eb.out (show w.heap.size + 1 ≠ gd by have h1 := Lb.out.lt; have h2 := Lb.out.lt2; have h3 := Lb.out.k.lt; omega) (.int .i64 r3.lsn) (.int .i64 r3.kind) (.int .i64 r3.level) (.int .i64 r3.right) (.string (M.bs r3.high)) (.slice a42 r3.es.length c42)); rw [← hwo] at E43; clear hwo Lb Eb Ob Zb hth hone hi6; obtain ⟨t0, t1, t2, t3, t4, t5⟩ := blk_cells L43.out.c; obtain ⟨v0, v1, v2, v3, v4, v5⟩ := blk_cells L43.out.d)
    clear HI1 HI2
    refine (same_any r3 (.slice a40 r3.es.length c40) (.slice a42 r3.es.length c42) w43 HSr3.out (own_vs L43.out.ou).vals (own_vs43 L43.out.ov).vals).mono ?_
    rintro e w50 ⟨rfl, ka⟩
    have La := hid (L43.out.bel ka)
    have Ea := hid (E43.out.below ka E43.out.lt)
    clear ka L43 E43 t0 t1 t2 t3 t4 t5 v0 v1 v2 v3 v4 v5
    obtain ⟨t0, t1, t2, t3, t4, t5⟩ := blk_cells La.out.k.a
    obtain ⟨v0, v1, v2, v3, v4, v5⟩ := blk_cells La.out.k.b
    go_wp2_with fail
    refine (same_any p (.slice a p.es.length c) (.slice a2 p.es.length c2) w50 HS.out (own_vs La.out.k.ox).vals (own_vs43 La.out.k.oy).vals).mono ?_
    rintro e w51 ⟨rfl, kb⟩
    have L51 := hid (La.out.bel kb)
    have E51 := hid (Ea.out.below kb Ea.out.lt)
    clear kb La Ea t0 t1 t2 t3 t4 t5 v0 v1 v2 v3 v4 v5
    go_wp2_with fail
    go_ret
    exact ⟨rfl, L51.out.k.below⟩
end Go.Proofs.Ytcmplklefeicbaa
