/-
  Two entries held against one another; the contract of the law's 'same' of any two pages, walked.
-/
import Derived.Test.YtaepbmcmggnmpaaDoorOR
namespace Go.Proofs.YtaepbmcmggnmpaaDoor
open Go.RowKit
set_option maxRecDepth 100000

theorem run_eqFields88 (w : World) (a b a' b' : ByteArray) (m n : Bool) : (Op.equalIn 10000 88 (.agg #[.string a, .string b, .bool m]) (.agg #[.string a', .string b', .bool n])).run Tryd.prog w =
    .ok ((a.toList == a'.toList) && (b.toList == b'.toList) && (m == n)) w := by
  have u4 := Tryd.underlying4
  have a4 := Tryd.isAgg4
  have z4 := Tryd.sizeOf4
  have u9 := Tryd.underlying9
  have a9 := Tryd.isAgg9
  have z9 := Tryd.sizeOf9
  have hS : Tryd.prog.underlying 88 = some (.struct (Tryd.prog.fieldsOf 88)) := by kernel_rfl
  have hp : Tryd.prog.stoodInHeld 88 = false := by kernel_rfl
  rw [show (10000 : Nat) = 9999 + 1 from rfl, run_equalIn_agg w 9999 88 _ _ hS hp]
  simp only [Program.fieldsOf, Tryd.underlying88]
  by_cases h1 : a.toList = a'.toList <;> by_cases h2 : b.toList = b'.toList <;> by_cases h3 : m = n
  all_goals go_simp
  all_goals simp [h1, h2, h3]
theorem neq88 (w : World) (a b a' b' : ByteArray) (m n : Bool) : (binOp .neq 88 (.agg #[.string a, .string b, .bool m]) (.agg #[.string a', .string b', .bool n])).run Tryd.prog w =
    .ok (.bool (!((a.toList == a'.toList) && (b.toList == b'.toList) && (m == n)))) w := by
  rw [run_neq_struct, run_eqFields88]; rfl
theorem guard88 (op : BinOp) (x y : Operand) (xs ys : Array Value) (w : World) : (eqGuard op 88 x y (.agg xs) (.agg ys)).run Tryd.prog w = .ok () w :=
  run_eqGuard_agg w op 88 x y xs ys (by kernel_rfl)
theorem en_same (a b : List UInt8) (m : Bool) : (((M.bs a).toList == (M.bs a).toList) && ((M.bs b).toList == (M.bs b).toList) && (m == m)) = true := by simp
theorem en_differ {a b a' b' : List UInt8} {m n : Bool} (h : ¬ ((a, b, m) = (a', b', n))) : (((M.bs a).toList == (M.bs a').toList) && ((M.bs b).toList == (M.bs b').toList) && (m == n)) = false := by
  rw [M.bs_toList, M.bs_toList, M.bs_toList, M.bs_toList]
  rw [Bool.eq_false_iff]
  intro e
  simp only [Bool.and_eq_true, beq_iff_eq] at e
  obtain ⟨⟨rfl, rfl⟩, rfl⟩ := e
  exact h rfl
set_option maxHeartbeats 4000000 in
theorem same_loop (lsn kd lev rig : Int) (high : List UInt8) (es es' : List M.En) (ax ay : Option Addr) (cx cy : Nat) (w : World) (hx : Vals w (.slice ax es.length cx) es) (hy : Vals w (.slice ay es.length cy) es') (hlen : es'.length = es.length) (hp : es.length ≤ 5000) :
    Calls Tryd.prog 18 #[.agg #[.int .i64 lsn, .int .i64 kd, .int .i64 lev, .int .i64 rig, .string (M.bs high), .slice ax es.length cx], .agg #[.int .i64 lsn, .int .i64 kd, .int .i64 lev, .int .i64 rig, .string (M.bs high), .slice ay es.length cy]] w fun e w' => ∃ b : Bool, e = .returned (.bool b) ∧ (b = true ↔ es = es') ∧ Bel w w' := by
  have HL := hid hlen
  clear hlen
  have k1 := guard88
  have k2 := neq88
  have bW : Bel w ((w.alloc (.cells #[.int .i64 lsn, .int .i64 kd, .int .i64 lev, .int .i64 rig, .string (M.bs high), .slice ax es.length cx] 29)).alloc (.cells #[.int .i64 lsn, .int .i64 kd, .int .i64 lev, .int .i64 rig, .string (M.bs high), .slice ay es.length cy] 32)) := Bel.al (Bel.al (Below.refl _ _) _) _
  have g1 : Bt 29 ((w.alloc (.cells #[.int .i64 lsn, .int .i64 kd, .int .i64 lev, .int .i64 rig, .string (M.bs high), .slice ax es.length cx] 29)).alloc (.cells #[.int .i64 lsn, .int .i64 kd, .int .i64 lev, .int .i64 rig, .string (M.bs high), .slice ay es.length cy] 32)) w.heap.size (.int .i64 lsn) (.int .i64 kd) (.int .i64 lev) (.int .i64 rig) (.string (M.bs high)) (.slice ax es.length cx) := (heap_two w _ _).1
  have g2 : Bt 32 ((w.alloc (.cells #[.int .i64 lsn, .int .i64 kd, .int .i64 lev, .int .i64 rig, .string (M.bs high), .slice ax es.length cx] 29)).alloc (.cells #[.int .i64 lsn, .int .i64 kd, .int .i64 lev, .int .i64 rig, .string (M.bs high), .slice ay es.length cy] 32)) (w.heap.size + 1) (.int .i64 lsn) (.int .i64 kd) (.int .i64 lev) (.int .i64 rig) (.string (M.bs high)) (.slice ay es.length cy) := (heap_two w _ _).2
  have hx := hid (hx.bel bW)
  have hy := hid (hy.bel bW)
  go_enter Tryd.func18, Tryd.ntmps18
  go_wp2_with fail
  generalize ((w.alloc (.cells #[.int .i64 lsn, .int .i64 kd, .int .i64 lev, .int .i64 rig, .string (M.bs high), .slice ax es.length cx] 29)).alloc (.cells #[.int .i64 lsn, .int .i64 kd, .int .i64 lev, .int .i64 rig, .string (M.bs high), .slice ay es.length cy] 32)) = W0 at *
  go_loopw [5] (fun i wr => ∃ k : Nat, k ≤ es.length ∧ es.take k = es'.take k ∧ i = .int .i64 k ∧ Bel W0 wr) (fun i _ => es.length - (intOf i).toNat)
  case atStart => exact ⟨0, Nat.zero_le _, rfl, rfl, Below.refl _ _⟩
  case round =>
    obtain ⟨k, hk, hek, rfl, hb⟩ := hrel
    have HK := hid hek
    clear hek
    have x5 := (g1.bel hb).cells.2.2.2.2.2
    have y5 := (g2.bel hb).cells.2.2.2.2.2
    by_cases hlt : k < es.length
    · have hlt' : k < es'.length := by have := HL.out; omega
      obtain ⟨bx, ox, rfl, hrx⟩ := (hx.out.bel hb).row (by omega)
      obtain ⟨by', oy, rfl, hry⟩ := (hy.out.bel hb).row (by omega)
      obtain ⟨c1, c2, c3⟩ := hrx k hlt
      obtain ⟨d1, d2, d3⟩ := hry k hlt'
      have HN : Hid (es[k] ≠ es'[k] → es ≠ es') := fun h e => h (by subst e; rfl)
      have HS : Hid (es[k] = es'[k] → es.take (k + 1) = es'.take (k + 1)) := fun h => by
        rw [List.take_succ_eq_append_getElem hlt, List.take_succ_eq_append_getElem hlt', HK.out, h]
      clear hrx hry
      generalize es[k] = c at *
      generalize es'[k] = c' at *
      clear hlt'
      obtain ⟨a, b, m⟩ := c
      obtain ⟨a', b', n⟩ := c'
      simp only at c1 c2 c3 d1 d2 d3
      by_cases hq : (a, b, m) = (a', b', n)
      · have HS2 := hid (HS.out hq)
        simp only [Prod.mk.injEq] at hq
        obtain ⟨rfl, rfl, rfl⟩ := hq
        have HQ := en_same a b m
        clear HN HS
        go_wp2_with fail
        go_quiet (fail)
        have b3 : Bel wr (wr.drewN nq) := below_drewN (Below.refl _ _) _
        generalize wr.drewN nq = W2 at b3 ⊢
        go_wp2_with fail
        go_roundw
        case rel => exact ⟨k + 1, by omega, HS2.out, by go_num, hb.tr b3⟩
        case measure => simp [intOf]; omega
      · have HQ := en_differ hq
        have HF : Hid (¬ es = es') := HN.out hq
        clear hq HN HS
        go_wp2_with fail
        go_quiet (fail)
        have b3 : Bel wr (wr.drewN nq) := below_drewN (Below.refl _ _) _
        generalize wr.drewN nq = W2 at b3 ⊢
        go_wp2_with fail
        go_ret
        exact ⟨false, rfl, by simp [HF.out], (bW.tr hb).tr b3⟩
    · have HG : Hid (es = es') := by
        have h1 := HK.out
        rw [List.take_of_length_le (by omega), List.take_of_length_le (by have := HL.out; omega)] at h1
        exact h1
      go_wp2_with fail
      go_ret
      exact ⟨true, rfl, by simp [HG.out], bW.tr hb⟩
set_option maxHeartbeats 4000000 in
theorem same_head (lsn kd lev rig lsn' kd' lev' rig' : Int) (high high' : List UInt8) (es es' : List M.En) (ax ay : Option Addr) (cx cy : Nat) (w : World) (h : ¬ (lsn = lsn' ∧ kd = kd' ∧ lev = lev' ∧ rig = rig' ∧ high = high' ∧ es'.length = es.length)) :
    Calls Tryd.prog 18 #[.agg #[.int .i64 lsn, .int .i64 kd, .int .i64 lev, .int .i64 rig, .string (M.bs high), .slice ax es.length cx], .agg #[.int .i64 lsn', .int .i64 kd', .int .i64 lev', .int .i64 rig', .string (M.bs high'), .slice ay es'.length cy]] w fun e w' => e = .returned (.bool false) ∧ Bel w w' := by
  have bW : Bel w ((w.alloc (.cells #[.int .i64 lsn, .int .i64 kd, .int .i64 lev, .int .i64 rig, .string (M.bs high), .slice ax es.length cx] 29)).alloc (.cells #[.int .i64 lsn', .int .i64 kd', .int .i64 lev', .int .i64 rig', .string (M.bs high'), .slice ay es'.length cy] 32)) := Bel.al (Bel.al (Below.refl _ _) _) _
  have HH := hid h
  clear h
  go_enter Tryd.func18, Tryd.ntmps18
  by_cases h_lsn : lsn = lsn'
  case neg =>
    have q2 : (lsn != lsn') = true := by simp [h_lsn]
    go_wp2_with fail
    go_ret
    exact ⟨rfl, bW⟩
  subst h_lsn
  by_cases h_kd : kd = kd'
  case neg =>
    have q2 : (kd != kd') = true := by simp [h_kd]
    go_wp2_with fail
    go_ret
    exact ⟨rfl, bW⟩
  subst h_kd
  by_cases h_lev : lev = lev'
  case neg =>
    have q2 : (lev != lev') = true := by simp [h_lev]
    go_wp2_with fail
    go_ret
    exact ⟨rfl, bW⟩
  subst h_lev
  by_cases h_rig : rig = rig'
  case neg =>
    have q2 : (rig != rig') = true := by simp [h_rig]
    go_wp2_with fail
    go_ret
    exact ⟨rfl, bW⟩
  subst h_rig
  by_cases h_high : high = high'
  case neg =>
    have s1 : ¬ (M.bs high = M.bs high') := fun e => h_high (by have := congrArg (fun b => b.data.toList) e; simpa [M.bs_data] using this)
    have s3 : ¬ ((M.bs high).toList = (M.bs high').toList) := by rw [M.bs_toList, M.bs_toList]; exact h_high
    have s4 : ((M.bs high).toList == (M.bs high').toList) = false := by simp [s3]
    go_wp2_with fail
    go_ret
    exact ⟨rfl, bW⟩
  subst h_high
  have hl : ¬ (es'.length = es.length) := fun e => HH.out ⟨rfl, rfl, rfl, rfl, rfl, e⟩
  have q1 : ¬ ((es.length : Int) = (es'.length : Int)) := by omega
  have q2 : ((es.length : Int) != (es'.length : Int)) = true := by simp; omega
  have q3 : ¬ (es.length = es'.length) := by omega
  go_wp2_with fail
  go_ret
  exact ⟨rfl, bW⟩
theorem same_any (p p' : M.Pg) (x y : Value) (w : World) (hx : Vals w x p.es) (hy : Vals w y p'.es) (hp : p.es.length ≤ 5000) :
    Calls Tryd.prog 18 #[pv p x, pv p' y] w fun e w' => ∃ b : Bool, e = .returned (.bool b) ∧ (b = true ↔ p = p') ∧ Bel w w' := by
  obtain ⟨lsn, kd, lev, rig, high, es⟩ := p
  obtain ⟨lsn', kd', lev', rig', high', es'⟩ := p'
  simp only at hx hy hp
  obtain ⟨ax, cx, rfl, _⟩ := id hx
  obtain ⟨ay, cy, rfl, _⟩ := id hy
  by_cases h : lsn = lsn' ∧ kd = kd' ∧ lev = lev' ∧ rig = rig' ∧ high = high' ∧ es'.length = es.length
  · obtain ⟨rfl, rfl, rfl, rfl, rfl, hl⟩ := h
    rw [hl] at hy ⊢
    refine (same_loop lsn kd lev rig high es es' ax ay cx cy w hx hy hl hp).mono ?_
    rintro e w' ⟨b, rfl, hb, hw⟩
    exact ⟨b, rfl, by rw [hb]; simp, hw⟩
  · refine (same_head lsn kd lev rig lsn' kd' lev' rig' high high' es es' ax ay cx cy w h).mono ?_
    rintro e w' ⟨rfl, hw⟩
    refine ⟨false, rfl, ?_, hw⟩
    simp only [Bool.false_eq_true, false_iff]
    intro e
    simp only [M.Pg.mk.injEq] at e
    obtain ⟨rfl, rfl, rfl, rfl, rfl, rfl⟩ := e
    exact h ⟨rfl, rfl, rfl, rfl, rfl, rfl⟩
end Go.Proofs.YtaepbmcmggnmpaaDoor
