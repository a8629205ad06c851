/-
  The law NodeSplits, walked.
-/
import Derived.Test.YtcmplklefeicbaaID
import Derived.Test.YtcmplklefeicbaaFB
namespace Go.Proofs.Ytcmplklefeicbaa
open Go.RowKit
set_option maxRecDepth 100000

/-- A page in its box, what it shows. -/
structure Pb (W : World) (g : Nat) (t : TypeId) (p : M.Pg) (x : Value) : Prop where
  b : Blk W g #[.int .i64 p.lsn, .int .i64 p.kind, .int .i64 p.level, .int .i64 p.right, .string (M.bs p.high), x] t
  v : Vs W x p.es
theorem Pb.bel {W W' : World} {g : Nat} {t : TypeId} {p : M.Pg} {x : Value} (h : Pb W g t p x) (k : Bel W W') : Pb W' g t p x := ⟨h.b.below k h.b.lt, h.v.bel k⟩
theorem Pb.cells {W : World} {g : Nat} {t : TypeId} {p : M.Pg} {x : Value} (h : Pb W g t p x) :
    W.cell? ⟨g, 0, none⟩ = some (.int .i64 p.lsn) ∧ W.cell? ⟨g, 1, none⟩ = some (.int .i64 p.kind) ∧ W.cell? ⟨g, 2, none⟩ = some (.int .i64 p.level) ∧ W.cell? ⟨g, 3, none⟩ = some (.int .i64 p.right) ∧ W.cell? ⟨g, 4, none⟩ = some (.string (M.bs p.high)) ∧ W.cell? ⟨g, 5, none⟩ = some x := blk_cells h.b
theorem Pb.two {W : World} {t : TypeId} {p q : M.Pg} {x y : Value} (hx : Vs W x p.es) (hy : Vs W y q.es) :
    Pb ((W.alloc (.cells #[.int .i64 p.lsn, .int .i64 p.kind, .int .i64 p.level, .int .i64 p.right, .string (M.bs p.high), x] t)).alloc (.cells #[.int .i64 q.lsn, .int .i64 q.kind, .int .i64 q.level, .int .i64 q.right, .string (M.bs q.high), y] t)) W.heap.size t p x ∧
      Pb ((W.alloc (.cells #[.int .i64 p.lsn, .int .i64 p.kind, .int .i64 p.level, .int .i64 p.right, .string (M.bs p.high), x] t)).alloc (.cells #[.int .i64 q.lsn, .int .i64 q.kind, .int .i64 q.level, .int .i64 q.right, .string (M.bs q.high), y] t)) (W.heap.size + 1) t q y := by
  obtain ⟨h1, h2⟩ := heap_two W (.cells #[.int .i64 p.lsn, .int .i64 p.kind, .int .i64 p.level, .int .i64 p.right, .string (M.bs p.high), x] t) (.cells #[.int .i64 q.lsn, .int .i64 q.kind, .int .i64 q.level, .int .i64 q.right, .string (M.bs q.high), y] t)
  have k : Bel W ((W.alloc (.cells #[.int .i64 p.lsn, .int .i64 p.kind, .int .i64 p.level, .int .i64 p.right, .string (M.bs p.high), x] t)).alloc (.cells #[.int .i64 q.lsn, .int .i64 q.kind, .int .i64 q.level, .int .i64 q.right, .string (M.bs q.high), y] t)) := Bel.al (Bel.al (Below.refl _ _) _) _
  exact ⟨⟨h1, hx.bel k⟩, ⟨h2, hy.bel k⟩⟩
theorem vs_form {w : World} {x : Value} {L : List M.En} (h : Vs w x L) : ∃ a c, x = .slice a L.length c := by
  rcases h with ⟨rfl, rfl⟩ | ⟨b, off, cap, rfl, _⟩
  · exact ⟨none, 0, rfl⟩
  · exact ⟨_, cap, rfl⟩
set_option maxHeartbeats 40000000 in
theorem splits_any (lv rt : Int) (hg : List UInt8) (L : List M.En) (ar : Option Addr) (cap : Nat) (td : Bool) (n : Int) (w : World) (hv : Vals w (.slice ar L.length cap) L) (hL : L.length ≤ maxLen) (hk : ∀ e ∈ L, e.1.length ≤ maxLen ∧ e.2.1.length ≤ maxLen) (hh : hg.length ≤ maxLen) :
    Calls Try.prog 4 #[.agg #[.int .i64 lv, .int .i64 rt, .string (M.bs hg), .slice ar L.length cap, .bool td], .int .i64 n] w fun e w' => e = .returned (.bool true) ∧ Bel w w' := by
  have Q1 := hid (Blk.new w #[.int .i64 lv, .int .i64 rt, .string (M.bs hg), .slice ar L.length cap, .bool td] 24)
  have HB0 : Hid (Bel w (w.alloc (.cells #[.int .i64 lv, .int .i64 rt, .string (M.bs hg), .slice ar L.length cap, .bool td] 24))) := Bel.al (Below.refl _ _) _
  have HMD := hid (fun W (hW : Bel w W) => made_page lv rt hg L ar cap td W (hv.bel hW) hL hk hh)
  clear hv hL hk hh
  go_enter Try.func4, Try.ntmps4
  go_wp2_with (go_at_call 8; refine (speaks_any _).mono ?_; rintro e w2 ⟨rfl, hb1⟩; have B3 := hid (HB0.out.tr hb1); obtain ⟨r0, r1, r2, r3, r4⟩ := blk_cells5 (Q1.out.below hb1 Q1.out.lt); clear hb1)
  clear Q1 HB0
  refine (HMD.out _ B3.out).mono ?_
  rintro e w3 ⟨p, x, y, rfl, ox, oy, k3, hsm, hkind, hlen, hup⟩
  obtain ⟨a, c, rfl⟩ := row_form ox
  obtain ⟨a2, c2, rfl⟩ := row_form oy
  have HS := hid hsm
  have HKD := hid hkind
  have kA : Bel w3 ((w3.alloc (.cells #[.int .i64 p.lsn, .int .i64 p.kind, .int .i64 p.level, .int .i64 p.right, .string (M.bs p.high), .slice a p.es.length c] 30)).alloc (.cells #[.int .i64 p.lsn, .int .i64 p.kind, .int .i64 p.level, .int .i64 p.right, .string (M.bs p.high), .slice a2 p.es.length c2] 33)) := Bel.al (Bel.al (Below.refl _ _) _) _
  obtain ⟨h1, h2⟩ := heap_two w3 (.cells #[.int .i64 p.lsn, .int .i64 p.kind, .int .i64 p.level, .int .i64 p.right, .string (M.bs p.high), .slice a p.es.length c] 30) (.cells #[.int .i64 p.lsn, .int .i64 p.kind, .int .i64 p.level, .int .i64 p.right, .string (M.bs p.high), .slice a2 p.es.length c2] 33)
  obtain ⟨ga, hga⟩ : ∃ ga, ga = w3.heap.size := ⟨_, rfl⟩
  rw [← hga] at h1 h2
  have A4 : Hid (Pb ((w3.alloc (.cells #[.int .i64 p.lsn, .int .i64 p.kind, .int .i64 p.level, .int .i64 p.right, .string (M.bs p.high), .slice a p.es.length c] 30)).alloc (.cells #[.int .i64 p.lsn, .int .i64 p.kind, .int .i64 p.level, .int .i64 p.right, .string (M.bs p.high), .slice a2 p.es.length c2] 33)) ga 30 p (.slice a p.es.length c)) := ⟨h1, (own_vs ox).bel kA⟩
  have B4 : Hid (Pb ((w3.alloc (.cells #[.int .i64 p.lsn, .int .i64 p.kind, .int .i64 p.level, .int .i64 p.right, .string (M.bs p.high), .slice a p.es.length c] 30)).alloc (.cells #[.int .i64 p.lsn, .int .i64 p.kind, .int .i64 p.level, .int .i64 p.right, .string (M.bs p.high), .slice a2 p.es.length c2] 33)) (ga + 1) 33 p (.slice a2 p.es.length c2)) := ⟨h2, (own_vs43 oy).bel kA⟩
  have K4 := hid ((B3.out.tr k3).tr kA)
  clear ox oy k3 hsm hkind hup kA r0 r1 r2 r3 r4 B3 HMD h1 h2
  have HRT := hid (rright_any p (.slice a2 p.es.length c2) _ HS.out B4.out.v HKD.out)
  obtain ⟨t0, t1, t2, t3, t4, t5⟩ := B4.out.cells
  go_wp2_with fail
  rw [← hga]
  generalize (w3.alloc (.cells #[.int .i64 p.lsn, .int .i64 p.kind, .int .i64 p.level, .int .i64 p.right, .string (M.bs p.high), .slice a p.es.length c] 30)).alloc (.cells #[.int .i64 p.lsn, .int .i64 p.kind, .int .i64 p.level, .int .i64 p.right, .string (M.bs p.high), .slice a2 p.es.length c2] 33) = w4 at *
  clear hga t0 t1 t2 t3 t4 t5
  refine HRT.out.mono ?_
  rintro e w5 ⟨bb, rfl, hbb, k5⟩
  have A5 := hid (A4.out.bel k5)
  have B5 := hid (B4.out.bel k5)
  have K5 := hid (K4.out.tr k5)
  clear k5 A4 B4 K4 HRT
  cases bb with
  | false =>
    go_wp2_with fail
    go_ret
    exact ⟨rfl, K5.out⟩
  | true =>
    obtain ⟨q, s, en, hsq, hss, hcut, hB⟩ := split_both HS.out (hbb rfl) n
    have HSQ := hid hsq
    have HSS := hid hss
    have HCUT := hid hcut
    have HI1 := hid hB.1
    have HI2 := hid hB.2
    clear hsq hss hcut hB hbb
    obtain ⟨t0, t1, t2, t3, t4, t5⟩ := A5.out.cells
    go_wp2_with fail
    refine (HI1.out _ w5 A5.out.v).mono ?_
    rintro e w6 ⟨x7, x8, rfl, v7, v8, k6⟩
    obtain ⟨a7, c7, rfl⟩ := vs_form v7
    obtain ⟨a8, c8, rfl⟩ := vs_form v8
    have kB : Bel w6 ((w6.alloc (.cells #[.int .i64 q.lsn, .int .i64 q.kind, .int .i64 q.level, .int .i64 q.right, .string (M.bs q.high), .slice a7 q.es.length c7] 30)).alloc (.cells #[.int .i64 s.lsn, .int .i64 s.kind, .int .i64 s.level, .int .i64 s.right, .string (M.bs s.high), .slice a8 s.es.length c8] 30)) := Bel.al (Bel.al (Below.refl _ _) _) _
    have A7 := hid (A5.out.bel (k6.tr kB))
    have B7 := hid (B5.out.bel (k6.tr kB))
    have K7 := hid (K5.out.tr (k6.tr kB))
    obtain ⟨gq, hgq⟩ : ∃ g, g = w6.heap.size := ⟨_, rfl⟩
    obtain ⟨C7, D7⟩ := Pb.two (t := 30) v7 v8
    rw [← hgq] at C7 D7
    have C7 := hid C7
    have D7 := hid D7
    clear v7 v8 k6 kB A5 B5 K5 HI1 t0 t1 t2 t3 t4 t5
    obtain ⟨t0, t1, t2, t3, t4, t5⟩ := B7.out.cells
    go_wp2_with fail
    rw [← hgq]
    generalize (w6.alloc (.cells #[.int .i64 q.lsn, .int .i64 q.kind, .int .i64 q.level, .int .i64 q.right, .string (M.bs q.high), .slice a7 q.es.length c7] 30)).alloc (.cells #[.int .i64 s.lsn, .int .i64 s.kind, .int .i64 s.level, .int .i64 s.right, .string (M.bs s.high), .slice a8 s.es.length c8] 30) = w7 at *
    clear hgq t0 t1 t2 t3 t4 t5
    refine (HI2.out _ w7 B7.out.v).mono ?_
    rintro e w8 ⟨x10, x11, rfl, v10, v11, k8⟩
    obtain ⟨a10, c10, rfl⟩ := vs_form v10
    obtain ⟨a11, c11, rfl⟩ := vs_form v11
    have kB : Bel w8 ((w8.alloc (.cells #[.int .i64 q.lsn, .int .i64 q.kind, .int .i64 q.level, .int .i64 q.right, .string (M.bs q.high), .slice a10 q.es.length c10] 33)).alloc (.cells #[.int .i64 s.lsn, .int .i64 s.kind, .int .i64 s.level, .int .i64 s.right, .string (M.bs s.high), .slice a11 s.es.length c11] 33)) := Bel.al (Bel.al (Below.refl _ _) _) _
    have A9 := hid (A7.out.bel (k8.tr kB))
    have B9 := hid (B7.out.bel (k8.tr kB))
    have C9 := hid (C7.out.bel (k8.tr kB))
    have D9 := hid (D7.out.bel (k8.tr kB))
    have K9 := hid (K7.out.tr (k8.tr kB))
    obtain ⟨gy, hgy⟩ : ∃ g, g = w8.heap.size := ⟨_, rfl⟩
    obtain ⟨E9, F9⟩ := Pb.two (t := 33) v10 v11
    rw [← hgy] at E9 F9
    have E9 := hid E9
    have F9 := hid F9
    clear v10 v11 k8 kB A7 B7 C7 D7 K7 HI2
    obtain ⟨t0, t1, t2, t3, t4, t5⟩ := C9.out.cells
    obtain ⟨u0, u1, u2, u3, u4, u5⟩ := E9.out.cells
    go_wp2_with fail
    rw [← hgy]
    generalize (w8.alloc (.cells #[.int .i64 q.lsn, .int .i64 q.kind, .int .i64 q.level, .int .i64 q.right, .string (M.bs q.high), .slice a10 q.es.length c10] 33)).alloc (.cells #[.int .i64 s.lsn, .int .i64 s.kind, .int .i64 s.level, .int .i64 s.right, .string (M.bs s.high), .slice a11 s.es.length c11] 33) = w9 at *
    clear hgy t0 t1 t2 t3 t4 t5 u0 u1 u2 u3 u4 u5
    refine (same_any q _ _ w9 HSQ.out C9.out.v.vals E9.out.v.vals).mono ?_
    rintro e w10 ⟨rfl, k10⟩
    have A10 := hid (A9.out.bel k10)
    have B10 := hid (B9.out.bel k10)
    have C10 := hid (C9.out.bel k10)
    have D10 := hid (D9.out.bel k10)
    have F10 := hid (F9.out.bel k10)
    have K10 := hid (K9.out.tr k10)
    clear k10 A9 B9 C9 D9 E9 F9 K9
    obtain ⟨t0, t1, t2, t3, t4, t5⟩ := D10.out.cells
    obtain ⟨u0, u1, u2, u3, u4, u5⟩ := F10.out.cells
    go_wp2_with fail
    refine (same_any s _ _ w10 HSS.out D10.out.v.vals F10.out.v.vals).mono ?_
    rintro e w11 ⟨rfl, k11⟩
    have A11 := hid (A10.out.bel k11)
    have B11 := hid (B10.out.bel k11)
    have C11 := hid (C10.out.bel k11)
    have D11 := hid (D10.out.bel k11)
    have K11 := hid (K10.out.tr k11)
    clear k11 A10 B10 C10 D10 F10 K10 t0 t1 t2 t3 t4 t5 u0 u1 u2 u3 u4 u5
    obtain ⟨t0, t1, t2, t3, t4, t5⟩ := A11.out.cells
    obtain ⟨u0, u1, u2, u3, u4, u5⟩ := B11.out.cells
    go_wp2_with fail
    refine (same_any p _ _ w11 HS.out A11.out.v.vals B11.out.v.vals).mono ?_
    rintro e w12 ⟨rfl, k12⟩
    have A12 := hid (A11.out.bel k12)
    have C12 := hid (C11.out.bel k12)
    have D12 := hid (D11.out.bel k12)
    have K12 := hid (K11.out.tr k12)
    clear k12 A11 B11 C11 D11 K11 t0 t1 t2 t3 t4 t5 u0 u1 u2 u3 u4 u5
    by_cases hen : en = 0
    · have CT := HCUT.out hen
      subst hen
      clear HCUT
      obtain ⟨b2, o2, ha8, hr8⟩ : ∃ b2 o2, a8 = some ⟨b2, o2, none⟩ ∧ Row3 w12 b2 o2 s.es := by
        rcases D12.out.v with ⟨_, h0⟩ | ⟨b', off', cap', h, h1, h2, h3⟩
        · have := CT.pos; rw [h0] at this; simp at this
        · injection h with e1 e2 e3
          exact ⟨b', off', e1, h3⟩
      subst ha8
      have hkey := (hr8 0 CT.pos).1
      rw [Nat.zero_mul, Nat.add_zero] at hkey
      have HCV := hid (CT.cov CT.pos)
      have HKEY := hid hkey
      clear hkey hr8
      generalize (s.es[0]'CT.pos).1 = key at *
      have hne0 : ¬ s.es = [] := fun h => by have h1 := CT.pos; rw [h] at h1; simp at h1
      have hl0 : (0 : Int) < (s.es.length : Int) := by have := CT.pos; omega
      have hll : ((q.es.length : Int) + (s.es.length : Int)) = (p.es.length : Int) := by have := CT.len; omega
      have HLL := hid hll
      have hlq := HSQ.out.es
      have hls := HSS.out.es
      have hlp := HS.out.es
      have hwl : IntKind.i64.wrap ((q.es.length : Int) + (s.es.length : Int)) = (p.es.length : Int) := by rw [IntKind.wrap_i64, hll]; omega
      have hbq := free_bounds HSQ.out
      have hbp := free_bounds HS.out
      have hfr := CT.free
      have hwf : IntKind.i64.wrap (M.free p - 64) = M.free p - 64 := by rw [IntKind.wrap_i64]; omega
      have hfr' : M.free p - 64 ≤ M.free q := by omega
      have hfd : decide (M.free p - 64 ≤ M.free q) = true := decide_eq_true hfr'
      have HQ1 := hid CT.right1
      have HQ2 := hid CT.right2
      have HQ3 := hid (CT.kind1.trans HKD.out)
      have HQ4 := hid (CT.kind2.trans HKD.out)
      clear CT hll
      go_wp2_with fail
      refine wp_last fun KL hKL => ?_
      have HL := hid hKL
      clear hKL
      refine region_until (S := fun W : World => Blk W gq #[.int .i64 q.lsn, .int .i64 q.kind, .int .i64 q.level, .int .i64 q.right, .string (M.bs q.high), .slice a7 q.es.length c7] 30 ∧ Blk W (gq + 1) #[.int .i64 s.lsn, .int .i64 s.kind, .int .i64 s.level, .int .i64 s.right, .string (M.bs s.high), .slice (some ⟨b2, o2, none⟩) s.es.length c8] 30 ∧ Blk W ga #[.int .i64 p.lsn, .int .i64 p.kind, .int .i64 p.level, .int .i64 p.right, .string (M.bs p.high), .slice a p.es.length c] 30 ∧ W.cell? ⟨b2, o2, none⟩ = some (.string (M.bs key))) (m := 37) (by kernel_rfl) ?_
      have kD : Bel w12 w12.drew := Bel.dr (Below.refl _ _)
      have A13 := hid (A12.out.bel kD)
      have C13 := hid (C12.out.bel kD)
      have D13 := hid (D12.out.bel kD)
      have K13 := hid (K12.out.tr kD)
      have hky : w12.drew.cell? ⟨b2, o2, none⟩ = some (.string (M.bs key)) := (bel_cell kD (block_lt_of_cell HKEY.out) o2).trans HKEY.out
      clear kD A12 C12 D12 K12 HKEY
      generalize w12.drew = w13 at *
      have hS := And.intro C13.out.b (And.intro D13.out.b (And.intro A13.out.b hky))
      have SB := hid (show ∀ W W', Bel W W' → (fun W : World => Blk W gq #[.int .i64 q.lsn, .int .i64 q.kind, .int .i64 q.level, .int .i64 q.right, .string (M.bs q.high), .slice a7 q.es.length c7] 30 ∧ Blk W (gq + 1) #[.int .i64 s.lsn, .int .i64 s.kind, .int .i64 s.level, .int .i64 s.right, .string (M.bs s.high), .slice (some ⟨b2, o2, none⟩) s.es.length c8] 30 ∧ Blk W ga #[.int .i64 p.lsn, .int .i64 p.kind, .int .i64 p.level, .int .i64 p.right, .string (M.bs p.high), .slice a p.es.length c] 30 ∧ W.cell? ⟨b2, o2, none⟩ = some (.string (M.bs key))) W → (fun W : World => Blk W gq #[.int .i64 q.lsn, .int .i64 q.kind, .int .i64 q.level, .int .i64 q.right, .string (M.bs q.high), .slice a7 q.es.length c7] 30 ∧ Blk W (gq + 1) #[.int .i64 s.lsn, .int .i64 s.kind, .int .i64 s.level, .int .i64 s.right, .string (M.bs s.high), .slice (some ⟨b2, o2, none⟩) s.es.length c8] 30 ∧ Blk W ga #[.int .i64 p.lsn, .int .i64 p.kind, .int .i64 p.level, .int .i64 p.right, .string (M.bs p.high), .slice a p.es.length c] 30 ∧ W.cell? ⟨b2, o2, none⟩ = some (.string (M.bs key))) W' from fun W W' k h => ⟨h.1.below k h.1.lt, h.2.1.below k h.2.1.lt, h.2.2.1.below k h.2.2.1.lt, (bel_cell k (block_lt_of_cell h.2.2.2) o2).trans h.2.2.2⟩)
      have HF1 := hid (right_any q _ w13 HSQ.out C13.out.v HQ3.out)
      have HF2 := hid (fun W (hW : Bel w13 W) => right_any s _ W HSS.out (D13.out.v.bel hW) HQ4.out)
      have HF3 := hid (fun W => covers_any q (.slice a7 q.es.length c7) key a7 q.es.length c7 rfl W)
      have HF4 := hid (fun W (hW : Bel w13 W) => free_any q _ W HSQ.out (C13.out.v.bel hW).vals)
      have HF5 := hid (fun W (hW : Bel w13 W) => free_any p _ W HS.out (A13.out.v.bel hW).vals)
      rw [HQ1.out] at HF1
      rw [HQ2.out] at HF2
      rw [HCV.out] at HF3
      clear hky
      refine take_next (i := 0) (.agg #[.int .i64 q.lsn, .int .i64 q.kind, .int .i64 q.level, .int .i64 q.right, .string (M.bs q.high), .slice a7 q.es.length c7]) [1, 2, 5, 6, 18, 19, 28, 29, 36, 37] (by kernel_rfl) (by kernel_rfl) rfl (by kernel_rfl) (by kernel_rfl) (by kernel_rfl) (by kernel_rfl) (fun _ _ _ h => absurd h.1 (by simp)) (Or.inl ⟨by rfl, fun w' hSw => by obtain ⟨s0, s1, s2, s3, s4, s5⟩ := blk_cells hSw.1; go_simp⟩) hS ?_
      try simp only [Act.put]
      refine until_step (j := 1) (by kernel_rfl) rfl (by kernel_rfl) (fun KX hKX => ?_)
      have HX := hid hKX
      clear hKX
      go_simp
      refine (HF1.out).mono ?_
      rintro e w14 ⟨rfl, k14⟩
      have hS := SB.out _ _ k14 hS
      refine HX.out _ _ ⟨fun _ => hS, ?_⟩
      clear HX
      try simp only [Act.put]
      refine until_step (j := 2) (by kernel_rfl) rfl (by kernel_rfl) (fun KX hKX => ?_)
      have HX := hid hKX
      clear hKX
      go_simp
      refine HX.out _ _ ⟨fun _ => hS, ?_⟩
      clear HX
      try simp only [Act.put]
      refine take_next (i := 3) (.agg #[.int .i64 s.lsn, .int .i64 s.kind, .int .i64 s.level, .int .i64 s.right, .string (M.bs s.high), .slice (some ⟨b2, o2, none⟩) s.es.length c8]) [4, 5, 6, 18, 19, 28, 29, 36, 37] (by kernel_rfl) (by kernel_rfl) rfl (by kernel_rfl) (by kernel_rfl) (by kernel_rfl) (by kernel_rfl) (fun _ _ _ h => absurd h.1 (by simp)) (Or.inl ⟨by kernel_rfl, fun w' hSw => by obtain ⟨s0, s1, s2, s3, s4, s5⟩ := blk_cells hSw.2.1; go_simp⟩) hS ?_
      try simp only [Act.put]
      refine until_step (j := 4) (by kernel_rfl) rfl (by kernel_rfl) (fun KX hKX => ?_)
      have HX := hid hKX
      clear hKX
      go_simp
      refine (HF2.out _ k14).mono ?_
      rintro e w15 ⟨rfl, k15⟩
      have hS := SB.out _ _ k15 hS
      refine HX.out _ _ ⟨fun _ => hS, ?_⟩
      clear HX
      try simp only [Act.put]
      refine until_step (j := 5) (by kernel_rfl) rfl (by kernel_rfl) (fun KX hKX => ?_)
      have HX := hid hKX
      clear hKX
      go_simp
      refine HX.out _ _ ⟨fun _ => hS, ?_⟩
      clear HX
      try simp only [Act.put]
      refine until_step (j := 6) (by kernel_rfl) rfl (by kernel_rfl) (fun KX hKX => ?_)
      have HX := hid hKX
      clear hKX
      go_simp
      refine HX.out _ _ ⟨fun _ => hS, ?_⟩
      clear HX
      try simp only [Act.put]
      refine take_next (i := 7) (.pointer (some ⟨gq, 5, none⟩)) [8, 9, 13, 17, 18, 19, 28, 29, 36, 37] (by kernel_rfl) (by kernel_rfl) rfl (by kernel_rfl) (by kernel_rfl) (by kernel_rfl) (by kernel_rfl) (fun _ _ _ h => absurd h.1 (by simp)) (Or.inl ⟨by kernel_rfl, fun w' hSw => by go_simp⟩) hS ?_
      try simp only [Act.put]
      refine take_next (i := 8) (.slice a7 q.es.length c7) [9, 13, 17, 18, 19, 28, 29, 36, 37] (by kernel_rfl) (by kernel_rfl) rfl (by kernel_rfl) (by kernel_rfl) (by kernel_rfl) (by kernel_rfl) (fun _ _ _ h => absurd h.1 (by simp)) (Or.inl ⟨by kernel_rfl, fun w' hSw => by obtain ⟨s0, s1, s2, s3, s4, s5⟩ := blk_cells hSw.1; go_simp⟩) hS ?_
      try simp only [Act.put]
      refine take_next (i := 9) (.int .i64 (q.es.length : Nat)) [13, 17, 18, 19, 28, 29, 36, 37] (by kernel_rfl) (by kernel_rfl) rfl (by kernel_rfl) (by kernel_rfl) (by kernel_rfl) (by kernel_rfl) (fun _ _ _ h => absurd h.1 (by simp)) (Or.inl ⟨by kernel_rfl, fun w' hSw => by go_simp⟩) hS ?_
      try simp only [Act.put]
      refine take_next (i := 10) (.pointer (some ⟨gq + 1, 5, none⟩)) [11, 12, 13, 17, 18, 19, 28, 29, 36, 37] (by kernel_rfl) (by kernel_rfl) rfl (by kernel_rfl) (by kernel_rfl) (by kernel_rfl) (by kernel_rfl) (fun _ _ _ h => absurd h.1 (by simp)) (Or.inl ⟨by kernel_rfl, fun w' hSw => by go_simp⟩) hS ?_
      try simp only [Act.put]
      refine take_next (i := 11) (.slice (some ⟨b2, o2, none⟩) s.es.length c8) [12, 13, 17, 18, 19, 28, 29, 36, 37] (by kernel_rfl) (by kernel_rfl) rfl (by kernel_rfl) (by kernel_rfl) (by kernel_rfl) (by kernel_rfl) (fun _ _ _ h => absurd h.1 (by simp)) (Or.inl ⟨by kernel_rfl, fun w' hSw => by obtain ⟨s0, s1, s2, s3, s4, s5⟩ := blk_cells hSw.2.1; go_simp⟩) hS ?_
      try simp only [Act.put]
      refine take_next (i := 12) (.int .i64 (s.es.length : Nat)) [13, 17, 18, 19, 28, 29, 36, 37] (by kernel_rfl) (by kernel_rfl) rfl (by kernel_rfl) (by kernel_rfl) (by kernel_rfl) (by kernel_rfl) (fun _ _ _ h => absurd h.1 (by simp)) (Or.inl ⟨by kernel_rfl, fun w' hSw => by go_simp⟩) hS ?_
      try simp only [Act.put]
      refine take_next (i := 13) (.int .i64 (p.es.length : Nat)) [17, 18, 19, 28, 29, 36, 37] (by kernel_rfl) (by kernel_rfl) rfl (by kernel_rfl) (by kernel_rfl) (by kernel_rfl) (by kernel_rfl) (fun _ _ _ h => absurd h.1 (by simp)) (Or.inl ⟨by kernel_rfl, fun w' hSw => by go_simp⟩) hS ?_
      try simp only [Act.put]
      refine take_next (i := 14) (.pointer (some ⟨ga, 5, none⟩)) [15, 16, 17, 18, 19, 28, 29, 36, 37] (by kernel_rfl) (by kernel_rfl) rfl (by kernel_rfl) (by kernel_rfl) (by kernel_rfl) (by kernel_rfl) (fun _ _ _ h => absurd h.1 (by simp)) (Or.inl ⟨by kernel_rfl, fun w' hSw => by go_simp⟩) hS ?_
      try simp only [Act.put]
      refine take_next (i := 15) (.slice a p.es.length c) [16, 17, 18, 19, 28, 29, 36, 37] (by kernel_rfl) (by kernel_rfl) rfl (by kernel_rfl) (by kernel_rfl) (by kernel_rfl) (by kernel_rfl) (fun _ _ _ h => absurd h.1 (by simp)) (Or.inl ⟨by kernel_rfl, fun w' hSw => by obtain ⟨s0, s1, s2, s3, s4, s5⟩ := blk_cells hSw.2.2.1; go_simp⟩) hS ?_
      try simp only [Act.put]
      refine take_next (i := 16) (.int .i64 (p.es.length : Nat)) [17, 18, 19, 28, 29, 36, 37] (by kernel_rfl) (by kernel_rfl) rfl (by kernel_rfl) (by kernel_rfl) (by kernel_rfl) (by kernel_rfl) (fun _ _ _ h => absurd h.1 (by simp)) (Or.inl ⟨by kernel_rfl, fun w' hSw => by go_simp⟩) hS ?_
      try simp only [Act.put]
      refine until_step (j := 17) (by kernel_rfl) rfl (by kernel_rfl) (fun KX hKX => ?_)
      have HX := hid hKX
      clear hKX
      go_simp
      refine HX.out _ _ ⟨fun _ => hS, ?_⟩
      clear HX
      try simp only [Act.put]
      refine until_step (j := 18) (by kernel_rfl) rfl (by kernel_rfl) (fun KX hKX => ?_)
      have HX := hid hKX
      clear hKX
      go_simp
      refine HX.out _ _ ⟨fun _ => hS, ?_⟩
      clear HX
      try simp only [Act.put]
      refine until_step (j := 19) (by kernel_rfl) rfl (by kernel_rfl) (fun KX hKX => ?_)
      have HX := hid hKX
      clear hKX
      go_simp
      refine HX.out _ _ ⟨fun _ => hS, ?_⟩
      clear HX
      try simp only [Act.put]
      refine take_next (i := 20) (.agg #[.int .i64 q.lsn, .int .i64 q.kind, .int .i64 q.level, .int .i64 q.right, .string (M.bs q.high), .slice a7 q.es.length c7]) [26, 27, 28, 29, 36, 37] (by kernel_rfl) (by kernel_rfl) rfl (by kernel_rfl) (by kernel_rfl) (by kernel_rfl) (by kernel_rfl) (fun _ _ _ h => absurd h.1 (by simp)) (Or.inl ⟨by kernel_rfl, fun w' hSw => by obtain ⟨s0, s1, s2, s3, s4, s5⟩ := blk_cells hSw.1; go_simp⟩) hS ?_
      try simp only [Act.put]
      refine take_next (i := 21) (.pointer (some ⟨gq + 1, 5, none⟩)) [22, 23, 24, 25, 26, 27, 28, 29, 36, 37] (by kernel_rfl) (by kernel_rfl) rfl (by kernel_rfl) (by kernel_rfl) (by kernel_rfl) (by kernel_rfl) (fun _ _ _ h => absurd h.1 (by simp)) (Or.inl ⟨by kernel_rfl, fun w' hSw => by go_simp⟩) hS ?_
      try simp only [Act.put]
      refine take_next (i := 22) (.slice (some ⟨b2, o2, none⟩) s.es.length c8) [23, 24, 25, 26, 27, 28, 29, 36, 37] (by kernel_rfl) (by kernel_rfl) rfl (by kernel_rfl) (by kernel_rfl) (by kernel_rfl) (by kernel_rfl) (fun _ _ _ h => absurd h.1 (by simp)) (Or.inl ⟨by kernel_rfl, fun w' hSw => by obtain ⟨s0, s1, s2, s3, s4, s5⟩ := blk_cells hSw.2.1; go_simp⟩) hS ?_
      try simp only [Act.put]
      refine take_next (i := 23) (.pointer (some ⟨b2, o2, none⟩)) [24, 25, 26, 27, 28, 29, 36, 37] (by kernel_rfl) (by kernel_rfl) rfl (by kernel_rfl) (by kernel_rfl) (by kernel_rfl) (by kernel_rfl) (fun _ _ _ h => absurd h.1 (by simp)) (Or.inl ⟨by kernel_rfl, fun w' hSw => by go_simp⟩) hS ?_
      try simp only [Act.put]
      refine take_next (i := 24) (.pointer (some ⟨b2, o2, none⟩)) [25, 26, 27, 28, 29, 36, 37] (by kernel_rfl) (by kernel_rfl) rfl (by kernel_rfl) (by kernel_rfl) (by kernel_rfl) (by kernel_rfl) (fun _ _ _ h => absurd h.1 (by simp)) (Or.inl ⟨by kernel_rfl, fun w' hSw => by go_simp⟩) hS ?_
      try simp only [Act.put]
      refine take_next (i := 25) (.string (M.bs key)) [26, 27, 28, 29, 36, 37] (by kernel_rfl) (by kernel_rfl) rfl (by kernel_rfl) (by kernel_rfl) (by kernel_rfl) (by kernel_rfl) (fun _ _ _ h => absurd h.1 (by simp)) (Or.inl ⟨by kernel_rfl, fun w' hSw => by have s0 := hSw.2.2.2; go_simp⟩) hS ?_
      try simp only [Act.put]
      refine until_step (j := 26) (by kernel_rfl) rfl (by kernel_rfl) (fun KX hKX => ?_)
      have HX := hid hKX
      clear hKX
      go_simp
      refine (HF3.out _).mono ?_
      rintro e w16 ⟨rfl, k16⟩
      have hS := SB.out _ _ k16 hS
      refine HX.out _ _ ⟨fun _ => hS, ?_⟩
      clear HX
      try simp only [Act.put]
      refine until_step (j := 27) (by kernel_rfl) rfl (by kernel_rfl) (fun KX hKX => ?_)
      have HX := hid hKX
      clear hKX
      go_simp
      refine HX.out _ _ ⟨fun _ => hS, ?_⟩
      clear HX
      try simp only [Act.put]
      refine until_step (j := 28) (by kernel_rfl) rfl (by kernel_rfl) (fun KX hKX => ?_)
      have HX := hid hKX
      clear hKX
      go_simp
      refine HX.out _ _ ⟨fun _ => hS, ?_⟩
      clear HX
      try simp only [Act.put]
      refine until_step (j := 29) (by kernel_rfl) rfl (by kernel_rfl) (fun KX hKX => ?_)
      have HX := hid hKX
      clear hKX
      go_simp
      refine HX.out _ _ ⟨fun _ => hS, ?_⟩
      clear HX
      try simp only [Act.put]
      refine take_next (i := 30) (.agg #[.int .i64 q.lsn, .int .i64 q.kind, .int .i64 q.level, .int .i64 q.right, .string (M.bs q.high), .slice a7 q.es.length c7]) [31, 35, 36, 37] (by kernel_rfl) (by kernel_rfl) rfl (by kernel_rfl) (by kernel_rfl) (by kernel_rfl) (by kernel_rfl) (fun _ _ _ h => absurd h.1 (by simp)) (Or.inl ⟨by kernel_rfl, fun w' hSw => by obtain ⟨s0, s1, s2, s3, s4, s5⟩ := blk_cells hSw.1; go_simp⟩) hS ?_
      try simp only [Act.put]
      refine take_next (i := 32) (.agg #[.int .i64 p.lsn, .int .i64 p.kind, .int .i64 p.level, .int .i64 p.right, .string (M.bs p.high), .slice a p.es.length c]) [33, 34, 35, 36, 37] (by kernel_rfl) (by kernel_rfl) rfl (by kernel_rfl) (by kernel_rfl) (by kernel_rfl) (by kernel_rfl) (fun _ _ _ h => absurd h.1 (by simp)) (Or.inl ⟨by kernel_rfl, fun w' hSw => by obtain ⟨s0, s1, s2, s3, s4, s5⟩ := blk_cells hSw.2.2.1; go_simp⟩) hS ?_
      try simp only [Act.put]
      refine until_step (j := 31) (by kernel_rfl) rfl (by kernel_rfl) (fun KX hKX => ?_)
      have HX := hid hKX
      clear hKX
      go_simp
      refine (HF4.out _ ((k14.tr k15).tr k16)).mono ?_
      rintro e w17 ⟨rfl, k17⟩
      have hS := SB.out _ _ k17 hS
      refine HX.out _ _ ⟨fun _ => hS, ?_⟩
      clear HX
      try simp only [Act.put]
      refine until_step (j := 33) (by kernel_rfl) rfl (by kernel_rfl) (fun KX hKX => ?_)
      have HX := hid hKX
      clear hKX
      go_simp
      refine (HF5.out _ (((k14.tr k15).tr k16).tr k17)).mono ?_
      rintro e w18 ⟨rfl, k18⟩
      have hS := SB.out _ _ k18 hS
      refine HX.out _ _ ⟨fun _ => hS, ?_⟩
      clear HX
      try simp only [Act.put]
      refine until_step (j := 34) (by kernel_rfl) rfl (by kernel_rfl) (fun KX hKX => ?_)
      have HX := hid hKX
      clear hKX
      go_simp
      refine HX.out _ _ ⟨fun _ => hS, ?_⟩
      clear HX
      try simp only [Act.put]
      refine until_step (j := 35) (by kernel_rfl) rfl (by kernel_rfl) (fun KX hKX => ?_)
      have HX := hid hKX
      clear hKX
      go_simp
      refine HX.out _ _ ⟨fun _ => hS, ?_⟩
      clear HX
      try simp only [Act.put]
      refine until_step (j := 36) (by kernel_rfl) rfl (by kernel_rfl) (fun KX hKX => ?_)
      have HX := hid hKX
      clear hKX
      go_simp
      refine HX.out _ _ ⟨fun _ => hS, ?_⟩
      clear HX
      try simp only [Act.put]
      refine until_step (j := 37) (by kernel_rfl) rfl (by kernel_rfl) (fun KX hKX => ?_)
      have HX := hid hKX
      clear hKX
      go_simp
      refine HX.out _ _ ⟨(fun h => by cases (Eq.trans (Eq.symm (show _ = true by kernel_rfl)) h)), ?_⟩
      clear HX
      refine until_done (by kernel_rfl) ⟨rfl, ?_⟩ _
      refine HL.out _ _ ?_
      clear HL
      go_wp2_with fail
      go_ret
      exact ⟨rfl, K13.out.tr ((((k14.tr k15).tr k16).tr k17).tr k18)⟩
    · have hen' : (en == 0) = false := by simpa using hen
      go_wp2_with fail
      go_ret
      exact ⟨rfl, K12.out⟩
end Go.Proofs.Ytcmplklefeicbaa
