/-
  The document's Right, walked.
-/
import Derived.Test.YtcmplklefeicbaaEE
namespace Go.Proofs.Ytcmplklefeicbaa
open Go.RowKit
set_option maxRecDepth 100000

/-- It answers a bool; where that is true the node is right. -/
def RR (w : World) (p : M.Pg) (e : Ending) (w' : World) : Prop := ∃ bb, e = .returned (.bool bb) ∧ (bb = true → M.right p = true) ∧ Bel w w'
theorem rr_mk {w : World} {p : M.Pg} {e : Ending} {w' : World} (bb : Bool) (h : e = .returned (.bool bb)) (h1 : bb = true → M.right p = true) (h2 : Bel w w') : RR w p e w' := ⟨bb, h, h1, h2⟩
set_option maxHeartbeats 16000000 in
theorem rright_some (lsn level right : Int) (high : List UInt8) (es : List M.En) (b off cap : Nat) (w : World) (hs : Sm ⟨lsn, 3, level, right, high, es⟩) (hr : Row3 w b off es) (hL : 0 < es.length) :
    Calls Try.prog 10 #[.agg #[.int .i64 lsn, .int .i64 3, .int .i64 level, .int .i64 right, .string (M.bs high), .slice (some ⟨b, off, none⟩) es.length cap]] w fun e w' => RR w ⟨lsn, 3, level, right, high, es⟩ e w' := by
  have h2 : es.length ≤ 1000 := hs.es
  have hb := hr.lt hL
  have B0 : Bel w (w.alloc (.cells #[.int .i64 lsn, .int .i64 3, .int .i64 level, .int .i64 right, .string (M.bs high), .slice (some ⟨b, off, none⟩) es.length cap] 33)) := Bel.al (Below.refl _ _) _
  have N0 := hid (Blk.new w #[.int .i64 lsn, .int .i64 3, .int .i64 level, .int .i64 right, .string (M.bs high), .slice (some ⟨b, off, none⟩) es.length cap] 33)
  have R0 := hid (hr.below B0 hb)
  have hb1 := Nat.lt_of_lt_of_le hb B0.size
  have HB0 := hid B0
  clear hr B0
  go_enter Try.func10, Try.ntmps10
  go_wp2_with fail
  generalize w.alloc (.cells #[.int .i64 lsn, .int .i64 3, .int .i64 level, .int .i64 right, .string (M.bs high), .slice (some ⟨b, off, none⟩) es.length cap] 33) = w1 at *
  go_loopw [3] (fun iv wr => ∃ i : Nat, i ≤ es.length ∧ iv = .int .i64 i ∧ (∀ j, j < i → M.okAt high es j = true) ∧ (∀ j (hj : j < es.length), j < i → level ≤ 0 ∨ M.noLink (es[j]'hj) = false) ∧ Bel w1 wr) (fun iv _ => es.length - (intOf iv).toNat)
  case atStart => exact ⟨0, by omega, rfl, fun j hj => absurd hj (by omega), fun j _ hj => absurd hj (by omega), Below.refl _ _⟩
  case round =>
    obtain ⟨i, hi, rfl, hok, hln, hbr⟩ := hrel
    have HOK := hid hok
    have HLN := hid hln
    clear hok hln
    have N1 := hid (N0.out.below hbr N0.out.lt)
    obtain ⟨t0, t1, t2, t3, t4, t5⟩ := blk_cells N1.out
    by_cases hlt : i < es.length
    · have hii : (i : Int) < (es.length : Int) := by omega
      have R1 := R0.out.below hbr hb1
      obtain ⟨c1, c2, c3⟩ := R1 i hlt
      have HKO : Hid (M.okAt high es i = ((decide (i = 0) || M.ltS (es[i - 1]?.getD ([], [], false)).1 (es[i]'hlt).1) && M.cov high (es[i]'hlt).1)) := by show _ = _; simp [M.okAt, hlt]
      have HPV : Hid (∀ h : 0 < i, wr.cell? ⟨b, off + (i - 1) * 3, none⟩ = some (.string (M.bs (es[i - 1]?.getD ([], [], false)).1))) := fun h => by
        have := (R1 (i - 1) (by omega)).1
        rw [this, List.getElem?_eq_getElem (by omega)]; rfl
      have HSM := hs.each _ (List.getElem_mem hlt)
      have HNL : Hid (∀ x, M.noLink (es[i]'hlt) = x → M.noLink (es[i]'hlt) = x) := fun x h => h
      have HNX : Hid (∀ j (hj : j < es.length), j = i → es[j]'hj = es[i]'hlt) := fun j hj e => by subst e; rfl
      generalize es[i]'hlt = ex at *
      obtain ⟨xk, xv, mm⟩ := ex
      simp only at c1 c2 c3 HKO HSM
      clear R1 HNL
      obtain ⟨g, hg⟩ : ∃ g, g = wr.heap.size := ⟨_, rfl⟩
      have E2 : Hid (Blk (wr.alloc (.cells #[.string (M.bs xk), .string (M.bs xv), .bool mm] 43)) g #[.string (M.bs xk), .string (M.bs xv), .bool mm] 43) := by rw [hg]; exact Blk.new _ _ _
      have kA : Bel wr (wr.alloc (.cells #[.string (M.bs xk), .string (M.bs xv), .bool mm] 43)) := Bel.al (Below.refl _ _) _
      have N2 := hid (N1.out.below kA N1.out.lt)
      have HPV2 : Hid (∀ h : 0 < i, (wr.alloc (.cells #[.string (M.bs xk), .string (M.bs xv), .bool mm] 43)).cell? ⟨b, off + (i - 1) * 3, none⟩ = some (.string (M.bs (es[i - 1]?.getD ([], [], false)).1))) := fun h => (bel_cell kA (Nat.lt_of_lt_of_le hb1 hbr.size) _).trans (HPV.out h)
      have hb2 := hid (hbr.tr kA)
      go_wp2_with fail
      rw [← hg]
      generalize wr.alloc (.cells #[.string (M.bs xk), .string (M.bs xv), .bool mm] 43) = w2 at *
      clear hg c1 c2 c3 kA t0 t1 t2 t3 t4 t5 N1 HPV
      obtain ⟨t0, t1, t2, t3, t4, t5⟩ := blk_cells N2.out
      obtain ⟨k0, k1, k2⟩ := blk_cells3 E2.out
      have z1 : (M.bs xk).toList = xk := M.bs_toList _
      have zv : (M.bs xv).size = xv.length := M.bs_size _
      by_cases h0 : i = 0
      · subst h0
        have q0 : decide ((0 : Int) < ((0 : Nat) : Int)) = false := rfl
        by_cases h3 : high = []
        · have z3 : (M.bs high).toList = [] := by rw [M.bs_toList, h3]
          have HKI : Hid (M.okAt high es 0 = true) := by show _ = _; rw [HKO.out, h3]; rfl
          clear h3 HKO
          go_quiet (fail)
          rename_i nq
          have kq : Bel w2 (w2.drewN nq) := below_drewN (Below.refl _ _) _
          have N3 := hid (N2.out.below kq N2.out.lt)
          have E3 := hid (E2.out.below kq E2.out.lt)
          have hb3 := hid (hb2.out.tr kq)
          clear t0 t1 t2 t3 t4 t5 k0 k1 k2 kq N2 E2 hb2
          generalize w2.drewN nq = w3 at *
          obtain ⟨t0, t1, t2, t3, t4, t5⟩ := blk_cells N3.out
          obtain ⟨k0, k1, k2⟩ := blk_cells3 E3.out
          by_cases hlv : level ≤ 0
          · have q9 : decide (0 < level) = false := decide_eq_false (by omega)
            have hlv' : ¬ 0 < level := by omega
            go_wp2_with fail
            go_roundw
            case rel => exact ⟨0 + 1, by omega, by go_num, fun q hq => (by by_cases e : q = 0; (· rw [e]; exact HKI.out); (· exact HOK.out q (by omega))), fun q hq hqi => (by exact Or.inl hlv), hb3.out⟩
            case measure => simp [intOf]; omega
          · have q9 : decide (0 < level) = true := decide_eq_true (by omega)
            have hlv' : 0 < level := by omega
            cases mm with
            | true =>
              go_wp2_with fail
              go_ret
              exact rr_mk false rfl (fun h => (by cases h)) (HB0.out.tr hb3.out)
            | false =>
              by_cases hv2 : xv.length = 2
              · have d1 : ((xv.length : Int) == 2) = true := by rw [hv2]; rfl
                have d2 : (xv.length : Int) = 2 := by omega
                have HG := hid (fun W => rget_any (M.bs xv) W (by rw [M.bs_size]; unfold maxLen; omega))
                have HNK : Hid (M.noLink (xk, xv, false) = decide (M.getB xv < 1)) := by show _ = _; simp [M.noLink, hv2]
                rw [M.bs_data] at HG
                clear hv2
                generalize M.getB xv = G at *
                by_cases hG : G < 1
                · have hG' : (G : Int) < 1 := by omega
                  have hG2 : decide ((G : Int) < 1) = true := decide_eq_true hG'
                  go_wp2_with (go_at_call 26; refine (HG.out _).mono ?_; rintro e w4 ⟨rfl, rfl⟩)
                  go_ret
                  exact rr_mk false rfl (fun h => (by cases h)) (HB0.out.tr hb3.out)
                · have hG' : ¬ (G : Int) < 1 := by omega
                  have hG2 : decide ((G : Int) < 1) = false := decide_eq_false hG'
                  go_wp2_with (go_at_call 26; refine (HG.out _).mono ?_; rintro e w4 ⟨rfl, rfl⟩)
                  go_roundw
                  case rel => exact ⟨0 + 1, by omega, by go_num, fun q hq => (by by_cases e : q = 0; (· rw [e]; exact HKI.out); (· exact HOK.out q (by omega))), fun q hq hqi => (by by_cases e : q = 0; (· right; rw [HNX.out q hq e, HNK.out]; simpa using hG); (· exact HLN.out q hq (by omega))), hb3.out⟩
                  case measure => simp [intOf]; omega
              · have d1 : ((xv.length : Int) == 2) = false := by simp; omega
                have d2 : ¬ (xv.length : Int) = 2 := by omega
                go_wp2_with fail
                go_ret
                exact rr_mk false rfl (fun h => (by cases h)) (HB0.out.tr hb3.out)
        · obtain ⟨hx, hy, hxy⟩ : ∃ hx hy, high = hx :: hy := by
            cases hp : high with
            | nil => exact absurd hp h3
            | cons hx hy => exact ⟨hx, hy, rfl⟩
          have z3 : (M.bs high).toList = hx :: hy := by rw [M.bs_toList, hxy]
          cases hc : M.ltS xk (hx :: hy) with
          | false =>
            have q1 : Op.bytesLess xk (hx :: hy) = false := hc
            clear h3 hxy HKO
            go_quiet (fail)
            rename_i nq
            go_wp2_with fail
            go_ret
            exact rr_mk false rfl (fun h => (by cases h)) ((HB0.out.tr hb2.out).tr (below_drewN (Below.refl _ _) _))
          | true =>
            have q1 : Op.bytesLess xk (hx :: hy) = true := hc
            have HKI : Hid (M.okAt high es 0 = true) := by show _ = _; rw [HKO.out]; simp only [M.cov, hxy, hc]; rfl
            clear h3 hxy HKO
            go_quiet (fail)
            rename_i nq
            have kq : Bel w2 (w2.drewN nq) := below_drewN (Below.refl _ _) _
            have N3 := hid (N2.out.below kq N2.out.lt)
            have E3 := hid (E2.out.below kq E2.out.lt)
            have hb3 := hid (hb2.out.tr kq)
            clear t0 t1 t2 t3 t4 t5 k0 k1 k2 kq N2 E2 hb2
            generalize w2.drewN nq = w3 at *
            obtain ⟨t0, t1, t2, t3, t4, t5⟩ := blk_cells N3.out
            obtain ⟨k0, k1, k2⟩ := blk_cells3 E3.out
            by_cases hlv : level ≤ 0
            · have q9 : decide (0 < level) = false := decide_eq_false (by omega)
              have hlv' : ¬ 0 < level := by omega
              go_wp2_with fail
              go_roundw
              case rel => exact ⟨0 + 1, by omega, by go_num, fun q hq => (by by_cases e : q = 0; (· rw [e]; exact HKI.out); (· exact HOK.out q (by omega))), fun q hq hqi => (by exact Or.inl hlv), hb3.out⟩
              case measure => simp [intOf]; omega
            · have q9 : decide (0 < level) = true := decide_eq_true (by omega)
              have hlv' : 0 < level := by omega
              cases mm with
              | true =>
                go_wp2_with fail
                go_ret
                exact rr_mk false rfl (fun h => (by cases h)) (HB0.out.tr hb3.out)
              | false =>
                by_cases hv2 : xv.length = 2
                · have d1 : ((xv.length : Int) == 2) = true := by rw [hv2]; rfl
                  have d2 : (xv.length : Int) = 2 := by omega
                  have HG := hid (fun W => rget_any (M.bs xv) W (by rw [M.bs_size]; unfold maxLen; omega))
                  have HNK : Hid (M.noLink (xk, xv, false) = decide (M.getB xv < 1)) := by show _ = _; simp [M.noLink, hv2]
                  rw [M.bs_data] at HG
                  clear hv2
                  generalize M.getB xv = G at *
                  by_cases hG : G < 1
                  · have hG' : (G : Int) < 1 := by omega
                    have hG2 : decide ((G : Int) < 1) = true := decide_eq_true hG'
                    go_wp2_with (go_at_call 26; refine (HG.out _).mono ?_; rintro e w4 ⟨rfl, rfl⟩)
                    go_ret
                    exact rr_mk false rfl (fun h => (by cases h)) (HB0.out.tr hb3.out)
                  · have hG' : ¬ (G : Int) < 1 := by omega
                    have hG2 : decide ((G : Int) < 1) = false := decide_eq_false hG'
                    go_wp2_with (go_at_call 26; refine (HG.out _).mono ?_; rintro e w4 ⟨rfl, rfl⟩)
                    go_roundw
                    case rel => exact ⟨0 + 1, by omega, by go_num, fun q hq => (by by_cases e : q = 0; (· rw [e]; exact HKI.out); (· exact HOK.out q (by omega))), fun q hq hqi => (by by_cases e : q = 0; (· right; rw [HNX.out q hq e, HNK.out]; simpa using hG); (· exact HLN.out q hq (by omega))), hb3.out⟩
                    case measure => simp [intOf]; omega
                · have d1 : ((xv.length : Int) == 2) = false := by simp; omega
                  have d2 : ¬ (xv.length : Int) = 2 := by omega
                  go_wp2_with fail
                  go_ret
                  exact rr_mk false rfl (fun h => (by cases h)) (HB0.out.tr hb3.out)
      · obtain ⟨j, rfl⟩ : ∃ j, i = j + 1 := ⟨i - 1, by omega⟩
        have hpv := HPV2.out (by omega)
        rw [show j + 1 - 1 = j from rfl] at hpv HKO
        have q0 : decide ((0 : Int) < ((j + 1 : Nat) : Int)) = true := decide_eq_true (by omega)
        have q5 : IntKind.i64.wrap (j : Int) = (j : Int) := by rw [IntKind.wrap_i64]; omega
        have q6 : (((j + 1 : Nat) : Int) - 1) = (j : Int) := by omega
        have q7 : (j : Int) < (es.length : Int) := by omega
        generalize (es[j]?.getD ([], [], false)).1 = yk at *
        have zy : (M.bs yk).toList = yk := M.bs_toList _
        cases hyx : M.ltS yk xk with
        | false =>
          have HT : Op.bytesLess yk xk = false := hyx
          clear HKO
          go_quiet (fail)
          rename_i nq
          go_wp2_with fail
          go_ret
          exact rr_mk false rfl (fun h => (by cases h)) ((HB0.out.tr hb2.out).tr (below_drewN (Below.refl _ _) _))
        | true =>
          have HT : Op.bytesLess yk xk = true := hyx
          by_cases h3 : high = []
          · have z3 : (M.bs high).toList = [] := by rw [M.bs_toList, h3]
            have HKI : Hid (M.okAt high es (j + 1) = true) := by show _ = _; rw [HKO.out, h3]; rw [hyx]; simp [M.cov]
            clear h3 HKO
            go_quiet (fail)
            rename_i nq
            have kq : Bel w2 (w2.drewN nq) := below_drewN (Below.refl _ _) _
            have N3 := hid (N2.out.below kq N2.out.lt)
            have E3 := hid (E2.out.below kq E2.out.lt)
            have hb3 := hid (hb2.out.tr kq)
            clear t0 t1 t2 t3 t4 t5 k0 k1 k2 kq N2 E2 hb2
            generalize w2.drewN nq = w3 at *
            obtain ⟨t0, t1, t2, t3, t4, t5⟩ := blk_cells N3.out
            obtain ⟨k0, k1, k2⟩ := blk_cells3 E3.out
            by_cases hlv : level ≤ 0
            · have q9 : decide (0 < level) = false := decide_eq_false (by omega)
              have hlv' : ¬ 0 < level := by omega
              go_wp2_with fail
              go_roundw
              case rel => exact ⟨(j + 1) + 1, by omega, by go_num, fun q hq => (by by_cases e : q = (j + 1); (· rw [e]; exact HKI.out); (· exact HOK.out q (by omega))), fun q hq hqi => (by exact Or.inl hlv), hb3.out⟩
              case measure => simp [intOf]; omega
            · have q9 : decide (0 < level) = true := decide_eq_true (by omega)
              have hlv' : 0 < level := by omega
              cases mm with
              | true =>
                go_wp2_with fail
                go_ret
                exact rr_mk false rfl (fun h => (by cases h)) (HB0.out.tr hb3.out)
              | false =>
                by_cases hv2 : xv.length = 2
                · have d1 : ((xv.length : Int) == 2) = true := by rw [hv2]; rfl
                  have d2 : (xv.length : Int) = 2 := by omega
                  have HG := hid (fun W => rget_any (M.bs xv) W (by rw [M.bs_size]; unfold maxLen; omega))
                  have HNK : Hid (M.noLink (xk, xv, false) = decide (M.getB xv < 1)) := by show _ = _; simp [M.noLink, hv2]
                  rw [M.bs_data] at HG
                  clear hv2
                  generalize M.getB xv = G at *
                  by_cases hG : G < 1
                  · have hG' : (G : Int) < 1 := by omega
                    have hG2 : decide ((G : Int) < 1) = true := decide_eq_true hG'
                    go_wp2_with (go_at_call 26; refine (HG.out _).mono ?_; rintro e w4 ⟨rfl, rfl⟩)
                    go_ret
                    exact rr_mk false rfl (fun h => (by cases h)) (HB0.out.tr hb3.out)
                  · have hG' : ¬ (G : Int) < 1 := by omega
                    have hG2 : decide ((G : Int) < 1) = false := decide_eq_false hG'
                    go_wp2_with (go_at_call 26; refine (HG.out _).mono ?_; rintro e w4 ⟨rfl, rfl⟩)
                    go_roundw
                    case rel => exact ⟨(j + 1) + 1, by omega, by go_num, fun q hq => (by by_cases e : q = (j + 1); (· rw [e]; exact HKI.out); (· exact HOK.out q (by omega))), fun q hq hqi => (by by_cases e : q = (j + 1); (· right; rw [HNX.out q hq e, HNK.out]; simpa using hG); (· exact HLN.out q hq (by omega))), hb3.out⟩
                    case measure => simp [intOf]; omega
                · have d1 : ((xv.length : Int) == 2) = false := by simp; omega
                  have d2 : ¬ (xv.length : Int) = 2 := by omega
                  go_wp2_with fail
                  go_ret
                  exact rr_mk false rfl (fun h => (by cases h)) (HB0.out.tr hb3.out)
          · obtain ⟨hx, hy, hxy⟩ : ∃ hx hy, high = hx :: hy := by
              cases hp : high with
              | nil => exact absurd hp h3
              | cons hx hy => exact ⟨hx, hy, rfl⟩
            have z3 : (M.bs high).toList = hx :: hy := by rw [M.bs_toList, hxy]
            cases hc : M.ltS xk (hx :: hy) with
            | false =>
              have q1 : Op.bytesLess xk (hx :: hy) = false := hc
              clear h3 hxy HKO
              go_quiet (fail)
              rename_i nq
              go_wp2_with fail
              go_ret
              exact rr_mk false rfl (fun h => (by cases h)) ((HB0.out.tr hb2.out).tr (below_drewN (Below.refl _ _) _))
            | true =>
              have q1 : Op.bytesLess xk (hx :: hy) = true := hc
              have HKI : Hid (M.okAt high es (j + 1) = true) := by show _ = _; rw [HKO.out]; simp only [M.cov, hxy, hc]; rw [hyx]; simp
              clear h3 hxy HKO
              go_quiet (fail)
              rename_i nq
              have kq : Bel w2 (w2.drewN nq) := below_drewN (Below.refl _ _) _
              have N3 := hid (N2.out.below kq N2.out.lt)
              have E3 := hid (E2.out.below kq E2.out.lt)
              have hb3 := hid (hb2.out.tr kq)
              clear t0 t1 t2 t3 t4 t5 k0 k1 k2 kq N2 E2 hb2
              generalize w2.drewN nq = w3 at *
              obtain ⟨t0, t1, t2, t3, t4, t5⟩ := blk_cells N3.out
              obtain ⟨k0, k1, k2⟩ := blk_cells3 E3.out
              by_cases hlv : level ≤ 0
              · have q9 : decide (0 < level) = false := decide_eq_false (by omega)
                have hlv' : ¬ 0 < level := by omega
                go_wp2_with fail
                go_roundw
                case rel => exact ⟨(j + 1) + 1, by omega, by go_num, fun q hq => (by by_cases e : q = (j + 1); (· rw [e]; exact HKI.out); (· exact HOK.out q (by omega))), fun q hq hqi => (by exact Or.inl hlv), hb3.out⟩
                case measure => simp [intOf]; omega
              · have q9 : decide (0 < level) = true := decide_eq_true (by omega)
                have hlv' : 0 < level := by omega
                cases mm with
                | true =>
                  go_wp2_with fail
                  go_ret
                  exact rr_mk false rfl (fun h => (by cases h)) (HB0.out.tr hb3.out)
                | false =>
                  by_cases hv2 : xv.length = 2
                  · have d1 : ((xv.length : Int) == 2) = true := by rw [hv2]; rfl
                    have d2 : (xv.length : Int) = 2 := by omega
                    have HG := hid (fun W => rget_any (M.bs xv) W (by rw [M.bs_size]; unfold maxLen; omega))
                    have HNK : Hid (M.noLink (xk, xv, false) = decide (M.getB xv < 1)) := by show _ = _; simp [M.noLink, hv2]
                    rw [M.bs_data] at HG
                    clear hv2
                    generalize M.getB xv = G at *
                    by_cases hG : G < 1
                    · have hG' : (G : Int) < 1 := by omega
                      have hG2 : decide ((G : Int) < 1) = true := decide_eq_true hG'
                      go_wp2_with (go_at_call 26; refine (HG.out _).mono ?_; rintro e w4 ⟨rfl, rfl⟩)
                      go_ret
                      exact rr_mk false rfl (fun h => (by cases h)) (HB0.out.tr hb3.out)
                    · have hG' : ¬ (G : Int) < 1 := by omega
                      have hG2 : decide ((G : Int) < 1) = false := decide_eq_false hG'
                      go_wp2_with (go_at_call 26; refine (HG.out _).mono ?_; rintro e w4 ⟨rfl, rfl⟩)
                      go_roundw
                      case rel => exact ⟨(j + 1) + 1, by omega, by go_num, fun q hq => (by by_cases e : q = (j + 1); (· rw [e]; exact HKI.out); (· exact HOK.out q (by omega))), fun q hq hqi => (by by_cases e : q = (j + 1); (· right; rw [HNX.out q hq e, HNK.out]; simpa using hG); (· exact HLN.out q hq (by omega))), hb3.out⟩
                      case measure => simp [intOf]; omega
                  · have d1 : ((xv.length : Int) == 2) = false := by simp; omega
                    have d2 : ¬ (xv.length : Int) = 2 := by omega
                    go_wp2_with fail
                    go_ret
                    exact rr_mk false rfl (fun h => (by cases h)) (HB0.out.tr hb3.out)
    · have hii : ¬ (i : Int) < (es.length : Int) := by omega
      have HR : Hid (M.rises high es = true) := M.rises_yes fun j hj => HOK.out j (by omega)
      by_cases hlv : level ≤ 0
      · have q1 : decide (level ≤ 0) = true := decide_eq_true hlv
        go_wp2_with fail
        go_ret
        exact rr_mk true rfl (fun _ => by show (M.rises high es && (decide (level ≤ 0) || M.links es)) = true; rw [HR.out, q1]; rfl) (HB0.out.tr hbr)
      · have q1 : decide (level ≤ 0) = false := decide_eq_false hlv
        have q2 : decide ((0 : Int) < (es.length : Int)) = true := decide_eq_true (by omega)
        have HLK : Hid (M.links es = true) := by
          show _ = _
          simp only [M.links, Bool.and_eq_true, decide_eq_true_eq, Bool.not_eq_true']
          refine ⟨hL, ?_⟩
          rw [List.any_eq_false]
          intro e he
          obtain ⟨j, hj, rfl⟩ := List.getElem_of_mem he
          have := (HLN.out j hj (by omega)).resolve_left hlv
          simpa using this
        go_wp2_with fail
        go_ret
        exact rr_mk true rfl (fun _ => by show (M.rises high es && (decide (level ≤ 0) || M.links es)) = true; rw [HR.out, HLK.out]; simp) (HB0.out.tr hbr)
theorem rright_nil (lsn level right : Int) (high : List UInt8) (a : Option Addr) (cap : Nat) (w : World) :
    Calls Try.prog 10 #[.agg #[.int .i64 lsn, .int .i64 3, .int .i64 level, .int .i64 right, .string (M.bs high), .slice a 0 cap]] w fun e w' => RR w ⟨lsn, 3, level, right, high, []⟩ e w' := by
  by_cases hlv : level ≤ 0
  · have q1 : decide (level ≤ 0) = true := decide_eq_true hlv
    go_enter Try.func10, Try.ntmps10
    go_wp2_with fail
    refine wp_loop_rounds 1 ?_
    rw [rounds_succ]
    go_wp2_with fail
    go_ret
    exact rr_mk true rfl (fun _ => by show (M.rises high [] && (decide (level ≤ 0) || M.links [])) = true; rw [q1]; rfl) (Bel.al (Below.refl _ _) _)
  · have q1 : decide (level ≤ 0) = false := decide_eq_false hlv
    go_enter Try.func10, Try.ntmps10
    go_wp2_with fail
    refine wp_loop_rounds 1 ?_
    rw [rounds_succ]
    go_wp2_with fail
    go_ret
    exact rr_mk false rfl (fun h => (by cases h)) (Bel.al (Below.refl _ _) _)
theorem rright_any (p : M.Pg) (x : Value) (w : World) (hs : Sm p) (hv : Vs w x p.es) (hk : p.kind = 3) :
    Calls Try.prog 10 #[pv p x] w fun e w' => RR w p e w' := by
  obtain ⟨lsn, kind, level, right, high, es⟩ := p
  simp only at hk
  subst hk
  rcases hv with ⟨rfl, h0⟩ | ⟨b, off, cap, rfl, hc, hb, hr⟩
  · simp only at h0
    subst h0
    exact rright_nil lsn level right high none 0 w
  · by_cases h0 : es = []
    · subst h0
      exact rright_nil lsn level right high _ cap w
    · refine rright_some lsn level right high es b off cap w hs hr ?_
      have : es.length ≠ 0 := fun h => h0 (List.length_eq_zero_iff.1 h)
      omega
end Go.Proofs.Ytcmplklefeicbaa
