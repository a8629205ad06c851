/-
  The contract of the law's 'same' of any two records, walked.
-/
import Derived.Test.YtaepbmcmggnmpaaSA
namespace Go.Proofs.Ytaepbmcmggnmpaa
open Go.RowKit
set_option maxRecDepth 100000

theorem pc_differ {m m' : Int} {t t' : List UInt8} (h : ¬ ((m, t) = (m', t'))) : ((m == m') && ((M.bs t).toList == (M.bs t').toList)) = false := by
  by_cases hm : m = m'
  · subst hm
    have : ¬ t = t' := fun e => h (by rw [e])
    simp [M.bs_toList, this]
  · simp [hm]
set_option maxHeartbeats 4000000 in
theorem same_loop (lsn txn kind : Int) (undo : List UInt8) (undone : Int) (pages pages' : List M.Ch) (x y : Value) (w : World) (hx : ValC w x pages) (hy : ValC w y pages') (hlen : pages'.length = pages.length) (hp : pages.length ≤ 5000) (he : ∀ c ∈ pages, c.2.length ≤ 5000) (he' : ∀ c ∈ pages', c.2.length ≤ 5000) :
    Calls Try.prog 12 #[rv ⟨lsn, txn, kind, undo, undone, pages⟩ x, rv ⟨lsn, txn, kind, undo, undone, pages'⟩ y] w fun e w' => ∃ b : Bool, e = .returned (.bool b) ∧ (b = true ↔ pages = pages') ∧ Bel w w' := by
  obtain ⟨ax, cx, rfl, _⟩ := id hx
  obtain ⟨ay, cy, rfl, _⟩ := id hy
  rw [hlen] at hy ⊢
  have HL := hid hlen
  clear hlen
  have k1 := guard67
  have k2 := neq67
  have bW : Bel w ((w.alloc (.cells #[.int .i64 lsn, .int .i64 txn, .int .i64 kind, .string (M.bs undo), .int .i64 undone, .slice ax pages.length cx] 29)).alloc (.cells #[.int .i64 lsn, .int .i64 txn, .int .i64 kind, .string (M.bs undo), .int .i64 undone, .slice ay pages.length cy] 32)) := Bel.al (Bel.al (Below.refl _ _) _) _
  have g1 : Bt 29 ((w.alloc (.cells #[.int .i64 lsn, .int .i64 txn, .int .i64 kind, .string (M.bs undo), .int .i64 undone, .slice ax pages.length cx] 29)).alloc (.cells #[.int .i64 lsn, .int .i64 txn, .int .i64 kind, .string (M.bs undo), .int .i64 undone, .slice ay pages.length cy] 32)) w.heap.size (.int .i64 lsn) (.int .i64 txn) (.int .i64 kind) (.string (M.bs undo)) (.int .i64 undone) (.slice ax pages.length cx) := Bt.bel (heap_alloc_new w _) (Bel.al (Below.refl _ _) _)
  have g2 : Bt 32 ((w.alloc (.cells #[.int .i64 lsn, .int .i64 txn, .int .i64 kind, .string (M.bs undo), .int .i64 undone, .slice ax pages.length cx] 29)).alloc (.cells #[.int .i64 lsn, .int .i64 txn, .int .i64 kind, .string (M.bs undo), .int .i64 undone, .slice ay pages.length cy] 32)) (w.heap.size + 1) (.int .i64 lsn) (.int .i64 txn) (.int .i64 kind) (.string (M.bs undo)) (.int .i64 undone) (.slice ay pages.length cy) := by
    have := heap_alloc_new (w.alloc (.cells #[.int .i64 lsn, .int .i64 txn, .int .i64 kind, .string (M.bs undo), .int .i64 undone, .slice ax pages.length cx] 29)) (.cells #[.int .i64 lsn, .int .i64 txn, .int .i64 kind, .string (M.bs undo), .int .i64 undone, .slice ay pages.length cy] 32)
    rw [World.size_alloc] at this
    exact this
  have hx := hid (hx.bel bW)
  have hy := hid (hy.bel bW)
  have HE := hid he
  have HE' := hid he'
  clear he he'
  go_enter Try.func12, Try.ntmps12
  go_wp2_with fail
  generalize (w.alloc (.cells #[.int .i64 lsn, .int .i64 txn, .int .i64 kind, .string (M.bs undo), .int .i64 undone, .slice ax pages.length cx] 29)).alloc (.cells #[.int .i64 lsn, .int .i64 txn, .int .i64 kind, .string (M.bs undo), .int .i64 undone, .slice ay pages.length cy] 32) = W0 at *
  go_loopw [5] (fun i wr => ∃ k : Nat, k ≤ pages.length ∧ pages.take k = pages'.take k ∧ i = .int .i64 k ∧ Bel W0 wr) (fun i _ => pages.length - (intOf i).toNat)
  case atStart => exact ⟨0, Nat.zero_le _, rfl, rfl, Below.refl _ _⟩
  case round =>
    obtain ⟨k, hk, hek, rfl, hb⟩ := hrel
    have HK := hid hek
    clear hek
    have x5 := (g1.bel hb).cells.2.2.2.2.2
    have y5 := (g2.bel hb).cells.2.2.2.2.2
    by_cases hlt : k < pages.length
    · have hlt' : k < pages'.length := by have := HL.out; omega
      obtain ⟨bx, ox, rfl, hrx⟩ := (hx.out.bel hb).row (by omega)
      obtain ⟨by', oy, rfl, hry⟩ := (hy.out.bel hb).row (by omega)
      obtain ⟨xv, c1, c2, c3⟩ := hrx k hlt
      obtain ⟨yv, d1, d2, d3⟩ := hry k hlt'
      have hel := HE.out pages[k] (List.getElem_mem hlt)
      have hel' := HE'.out pages'[k] (List.getElem_mem hlt')
      have HN : Hid (pages[k] ≠ pages'[k] → pages ≠ pages') := fun h e => h (by subst e; rfl)
      have HS : Hid (pages[k] = pages'[k] → pages.take (k + 1) = pages'.take (k + 1)) := fun h => by
        rw [List.take_succ_eq_append_getElem hlt, List.take_succ_eq_append_getElem hlt', HK.out, h]
      clear hrx hry
      generalize pages[k] = c at *
      generalize pages'[k] = c' at *
      clear hlt'
      obtain ⟨pn, pl⟩ := c
      obtain ⟨pn', pl'⟩ := c'
      simp only at c1 c2 c3 d1 d2 d3 hel hel'
      obtain ⟨xa, xc, rfl, _⟩ := id c3
      obtain ⟨ya, yc, rfl, _⟩ := id d3
      have HC3 := hid c3
      have HD3 := hid d3
      clear c3 d3
      by_cases hpn : pn = pn'
      · subst hpn
        by_cases hpl : pl'.length = pl.length
        · rw [hpl] at d2
          have HD3 : Hid (Vals wr (.slice ya pl.length yc) pl') := by rw [← hpl]; exact HD3
          have HPL := hid hpl
          clear hpl
          go_wp2_with fail
          go_quiet (fail)
          have b0 : Bel wr (wr.drewN nq) := below_drewN (Below.refl _ _) _
          generalize wr.drewN nq = W1 at b0 ⊢
          have hb1 := hb.tr b0
          have x5 := (g1.bel hb1).cells.2.2.2.2.2
          have y5 := (g2.bel hb1).cells.2.2.2.2.2
          have D2 := hid (cell_later b0 d2)
          have C2 := hid (cell_later b0 c2)
          have C3 := hid (HC3.out.bel b0)
          have D3 := hid (HD3.out.bel b0)
          clear HC3 HD3 c1 c2 d1 d2
          go_wp2_with fail
          go_loopw [6] (fun i w2 => ∃ j : Nat, j ≤ pl.length ∧ pl.take j = pl'.take j ∧ i = .int .i64 j ∧ Bel W1 w2) (fun i _ => pl.length - (intOf i).toNat)
          case atStart => exact ⟨0, Nat.zero_le _, rfl, rfl, Below.refl _ _⟩
          case round =>
            obtain ⟨j, hj, hej, rfl, hbj⟩ := hrel
            have HJ := hid hej
            clear hej
            have x5 := (g1.bel (hb1.tr hbj)).cells.2.2.2.2.2
            have y5 := (g2.bel (hb1.tr hbj)).cells.2.2.2.2.2
            have d2 := cell_later hbj D2.out
            have c2 := cell_later hbj C2.out
            by_cases hjl : j < pl.length
            · have hjl' : j < pl'.length := by have := HPL.out; omega
              obtain ⟨b1, o1, rfl, r1⟩ := (C3.out.bel hbj).row (by omega)
              obtain ⟨b2, o2, rfl, r2⟩ := (D3.out.bel hbj).row (by omega)
              obtain ⟨p1, p2⟩ := r1 j hjl
              obtain ⟨q1, q2⟩ := r2 j hjl'
              have HM : Hid (pl[j] ≠ pl'[j] → pl ≠ pl') := fun h e => h (by subst e; rfl)
              have HT : Hid (pl[j] = pl'[j] → pl.take (j + 1) = pl'.take (j + 1)) := fun h => by
                rw [List.take_succ_eq_append_getElem hjl, List.take_succ_eq_append_getElem hjl', HJ.out, h]
              clear r1 r2
              generalize pl[j] = q at *
              generalize pl'[j] = q' at *
              clear hjl'
              obtain ⟨m, t⟩ := q
              obtain ⟨m', t'⟩ := q'
              simp only at p1 p2 q1 q2
              by_cases hq : (m, t) = (m', t')
              · have HT2 := hid (HT.out hq)
                obtain ⟨rfl, rfl⟩ := Prod.mk.inj hq
                have HQ := pc_same m t
                clear hq HM HT
                go_wp2_with fail
                go_quiet (fail)
                have b3 : Bel wr (wr.drewN nq) := below_drewN (Below.refl _ _) _
                generalize wr.drewN nq = W2 at b3 ⊢
                go_wp2_with fail
                go_roundw
                case rel => exact ⟨j + 1, by omega, HT2.out, by go_num, hbj.tr b3⟩
                case measure => simp [intOf]; omega
              · have HQ := pc_differ hq
                have HF : Hid (¬ pages = pages') := HN.out (fun e => HM.out hq (Prod.mk.inj e).2)
                clear hq HM HT
                go_wp2_with fail
                go_quiet (fail)
                have b3 : Bel wr (wr.drewN nq) := below_drewN (Below.refl _ _) _
                generalize wr.drewN nq = W2 at b3 ⊢
                go_wp2_with fail
                go_ret
                exact ⟨false, rfl, by simp [HF.out], ((bW.tr hb1).tr hbj).tr b3⟩
            · have HG : Hid (pages.take (k + 1) = pages'.take (k + 1)) := HS.out (by
                have h1 := HJ.out
                rw [List.take_of_length_le (by omega), List.take_of_length_le (by have := HPL.out; omega)] at h1
                rw [h1])
              go_wp2_with fail
              go_roundw
              case rel => exact ⟨k + 1, by omega, HG.out, by go_num, hb1.tr hbj⟩
              case measure => simp [intOf]; omega
        · have HF : Hid (¬ pages = pages') := HN.out (fun e => hpl (by rw [(Prod.mk.inj e).2]))
          have q1 : ¬ ((pl.length : Int) = (pl'.length : Int)) := by omega
          have q2 : ((pl.length : Int) != (pl'.length : Int)) = true := by simp; omega
          have q3 : ¬ (pl.length = pl'.length) := by omega
          go_wp2_with fail
          go_quiet (fail)
          have b0 : Bel wr (wr.drewN nq) := below_drewN (Below.refl _ _) _
          generalize wr.drewN nq = W1 at b0 ⊢
          go_wp2_with fail
          go_ret
          exact ⟨false, rfl, by simp [HF.out], (bW.tr hb).tr b0⟩
      · have HF : Hid (¬ pages = pages') := HN.out (fun e => hpn (Prod.mk.inj e).1)
        have q2 : (pn != pn') = true := by simp [hpn]
        go_wp2_with fail
        go_quiet (fail)
        have b0 : Bel wr (wr.drewN nq) := below_drewN (Below.refl _ _) _
        generalize wr.drewN nq = W1 at b0 ⊢
        go_wp2_with fail
        go_ret
        exact ⟨false, rfl, by simp [HF.out], (bW.tr hb).tr b0⟩
    · have HG : Hid (pages = pages') := by
        have h1 := HK.out
        rw [List.take_of_length_le (by omega), List.take_of_length_le (by have := HL.out; omega)] at h1
        exact h1
      go_wp2_with fail
      go_ret
      exact ⟨true, rfl, by simp [HG.out], bW.tr hb⟩
end Go.Proofs.Ytaepbmcmggnmpaa
