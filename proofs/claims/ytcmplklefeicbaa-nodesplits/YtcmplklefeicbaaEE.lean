/-
  node's Right of every level, walked.
-/
import Derived.Test.YtcmplklefeicbaaED
namespace Go.Proofs.Ytcmplklefeicbaa.M
def noLink (e : En) : Bool := e.2.2 || !decide (e.2.1.length = 2) || decide (getB e.2.1 < 1)
def links (es : List En) : Bool := decide (0 < es.length) && !es.any noLink
def right (p : Pg) : Bool := rises p.high p.es && (decide (p.level ≤ 0) || links p.es)
end Go.Proofs.Ytcmplklefeicbaa.M
namespace Go.Proofs.Ytcmplklefeicbaa
open Go.RowKit
set_option maxRecDepth 100000

set_option maxHeartbeats 1000000 in
theorem nolink_any (k v : List UInt8) (m : Bool) (w : World) (_hk : k.length ≤ 1000000) (_hv : v.length ≤ 1000000) :
    Calls Try.prog 41 #[.agg #[.string (M.bs k), .string (M.bs v), .bool m]] w fun e w' => e = .returned (.bool (M.noLink (k, v, m))) ∧ Bel w w' := by
  have zk : (M.bs k).size = k.length := M.bs_size k
  have zv : (M.bs v).size = v.length := M.bs_size v
  cases m with
  | true =>
    have HE : Hid (M.noLink (k, v, true) = true) := by show _ = _; simp [M.noLink]
    go_enter Try.func41, Try.ntmps41
    go_wp2
    go_ret
    exact ⟨by rw [HE.out]; rfl, Bel.al (Below.refl _ _) _⟩
  | false =>
    by_cases h2 : v.length = 2
    · have d1 : ((v.length : Int) == 2) = true := by rw [h2]; rfl
      have d2 : (v.length : Int) = 2 := by omega
      have HG := fun W => get_any (M.bs v) W (by rw [M.bs_size]; unfold maxLen; omega)
      rw [M.bs_data] at HG
      have HE : Hid (M.noLink (k, v, false) = decide (M.getB v < 1)) := by show _ = _; simp [M.noLink, h2]
      generalize M.getB v = G at *
      have HE' : Hid (M.noLink (k, v, false) = decide ((G : Int) < 1)) := by show _ = _; rw [HE.out]; by_cases h : G < 1 <;> simp [h] <;> omega
      clear h2
      go_enter Try.func41, Try.ntmps41
      go_wp2_with (go_at_call 42; refine (HG _).mono ?_; rintro e w3 ⟨rfl, rfl⟩)
      go_ret
      exact ⟨by rw [HE'.out]; rfl, Bel.al (Below.refl _ _) _⟩
    · have d1 : ((v.length : Int) == 2) = false := by simp; omega
      have d2 : ¬ (v.length : Int) = 2 := by omega
      have HE : Hid (M.noLink (k, v, false) = true) := by show _ = _; simp [M.noLink, h2]
      go_enter Try.func41, Try.ntmps41
      go_wp2
      go_ret
      exact ⟨by rw [HE.out]; rfl, Bel.al (Below.refl _ _) _⟩
set_option maxHeartbeats 1000000 in
theorem index_some (L : List M.En) (b off cap : Nat) (w : World) (hv : Row3 w b off L) (hL : 0 < L.length) (h3 : ∀ e ∈ L, e.1.length ≤ 1000 ∧ e.2.1.length ≤ 1000) (hL2 : L.length ≤ 1000) :
    Calls Try.prog 44 #[.slice (some ⟨b, off, none⟩) L.length cap, .func (.func 41) #[] #[]] w fun e w' => (∃ n : Int, e = .returned (.int .i64 n) ∧ (0 ≤ n ↔ L.any M.noLink = true)) ∧ Bel w w' := by
  have hbw := hv.lt hL
  go_enter Try.func44, Try.ntmps44
  go_wp2_with fail
  go_loopw [8] (fun i wr => ∃ k : Nat, k ≤ L.length ∧ i = .int .i64 k ∧ (L.take k).any M.noLink = false ∧ Bel w wr) (fun i _ => L.length - (intOf i).toNat)
  case atStart => exact ⟨0, Nat.zero_le _, rfl, rfl, Below.refl _ _⟩
  case round =>
    obtain ⟨k, hk, rfl, hno, hb⟩ := hrel
    by_cases hlt : k < L.length
    · obtain ⟨c1, c2, c3⟩ := (hv.below hb hbw) k hlt
      have he := h3 L[k] (List.getElem_mem hlt)
      have HY : Hid (M.noLink L[k] = true → L.any M.noLink = true) := fun h => List.any_eq_true.2 ⟨_, List.getElem_mem hlt, h⟩
      have HN : Hid (M.noLink L[k] = false → (L.take (k + 1)).any M.noLink = false) := fun h => by rw [List.take_succ_eq_append_getElem hlt, List.any_append, hno]; simp [h]
      clear h3 hv hno
      generalize L[k] = v at *
      obtain ⟨kk, vv, mm⟩ := v
      simp only at he c1 c2 c3
      have H := fun W => nolink_any kk vv mm W (by omega) (by omega)
      by_cases hl : M.noLink (kk, vv, mm) = true
      · rw [hl] at H
        have HF := hid (HY.out hl)
        clear hl HY HN
        go_wp2_with fail
        refine (H _).mono ?_
        rintro e w1 ⟨rfl, b1⟩
        go_wp2_with fail
        go_ret
        exact ⟨⟨(k : Int), rfl, ⟨fun _ => HF.out, fun _ => by omega⟩⟩, hb.tr b1⟩
      · rw [Bool.not_eq_true] at hl
        rw [hl] at H
        have HF := hid (HN.out hl)
        clear hl HY HN
        go_wp2_with fail
        refine (H _).mono ?_
        rintro e w1 ⟨rfl, b1⟩
        go_wp2_with fail
        go_roundw
        case rel => exact ⟨k + 1, by omega, by go_num, HF.out, hb.tr b1⟩
        case measure => simp [intOf]; omega
    · have HF : Hid (L.any M.noLink = false) := by show _ = _; rw [List.take_of_length_le (by omega)] at hno; exact hno
      clear hno
      go_wp2_with fail
      go_ret
      exact ⟨⟨-1, rfl, ⟨fun h => by omega, fun h => by rw [HF.out] at h; cases h⟩⟩, hb⟩
theorem index_nil (a : Option Addr) (cap : Nat) (w : World) :
    Calls Try.prog 44 #[.slice a 0 cap, .func (.func 41) #[] #[]] w fun e w' => (∃ n : Int, e = .returned (.int .i64 n) ∧ (0 ≤ n ↔ ([] : List M.En).any M.noLink = true)) ∧ Bel w w' := by
  go_enter Try.func44, Try.ntmps44
  go_wp2_with fail
  refine wp_loop_rounds 1 ?_
  rw [rounds_succ]
  go_wp2_with fail
  go_ret
  exact ⟨⟨-1, rfl, by simp⟩, Below.refl _ _⟩
theorem contains_any (L : List M.En) (x : Value) (w : World) (hv : Vals w x L) (h3 : ∀ e ∈ L, e.1.length ≤ 1000 ∧ e.2.1.length ≤ 1000) (hL2 : L.length ≤ 1000) :
    Calls Try.prog 43 #[x, .func (.func 41) #[] #[]] w fun e w' => e = .returned (.bool (L.any M.noLink)) ∧ Bel w w' := by
  have H : Calls Try.prog 44 #[x, .func (.func 41) #[] #[]] w fun e w' => (∃ n : Int, e = .returned (.int .i64 n) ∧ (0 ≤ n ↔ L.any M.noLink = true)) ∧ Bel w w' := by
    obtain ⟨a, cap, rfl, hv⟩ := hv
    by_cases h0 : L = []
    · subst h0; exact index_nil a cap w
    · obtain ⟨b, off, rfl, hr⟩ := hv.resolve_left h0
      refine index_some L b off cap w hr ?_ h3 hL2
      have : L.length ≠ 0 := fun h => h0 (List.length_eq_zero_iff.1 h)
      omega
  clear hv h3
  go_enter Try.func43, Try.ntmps43
  go_wp2_with fail
  refine H.mono ?_
  rintro e w1 ⟨⟨n, rfl, hn⟩, b1⟩
  have HN : Hid (decide ((0 : Int) ≤ n) = L.any M.noLink) := by
    show _ = _
    rw [Bool.eq_iff_iff, decide_eq_true_eq]; exact hn
  clear hn
  go_wp2_with fail
  go_ret
  exact ⟨by rw [← HN.out]; rfl, b1⟩
set_option maxHeartbeats 2000000 in
theorem links_any (p : M.Pg) (x : Value) (w : World) (hs : Sm p) (hv : Vs w x p.es) :
    Calls Try.prog 36 #[pv p x] w fun e w' => e = .returned (.bool (M.links p.es)) ∧ Bel w w' := by
  have HC := hid (fun W (hW : Bel w W) => contains_any p.es x W (hv.bel hW).vals hs.each hs.es)
  have hB0 : Bel w (w.alloc (.cells #[.int .i64 p.lsn, .int .i64 p.kind, .int .i64 p.level, .int .i64 p.right, .string (M.bs p.high), x] 30)) := Bel.al (Below.refl _ _) _
  have HB := hid hB0
  obtain ⟨a, n, c, rfl, hn⟩ : ∃ a n c, x = .slice a n c ∧ n = p.es.length := by
    rcases hv with ⟨rfl, h0⟩ | ⟨b, off, cap, rfl, _⟩
    · exact ⟨none, 0, 0, rfl, by rw [h0]; rfl⟩
    · exact ⟨_, _, cap, rfl, rfl⟩
  subst hn
  clear hv hB0
  by_cases h0 : 0 < p.es.length
  · have d0 : decide ((0 : Int) < (p.es.length : Int)) = true := decide_eq_true (by omega)
    have HE : Hid (M.links p.es = !p.es.any M.noLink) := by show _ = _; simp [M.links, h0]
    have HC1 := hid (HC.out _ HB.out)
    generalize p.es.any M.noLink = nb at *
    clear HC
    go_enter Try.func36, Try.ntmps36
    go_wp2_with fail
    refine HC1.out.mono ?_
    rintro e w3 ⟨rfl, b3⟩
    go_wp2_with fail
    go_ret
    exact ⟨by rw [HE.out]; rfl, HB.out.tr b3⟩
  · have d0 : decide ((0 : Int) < (p.es.length : Int)) = false := decide_eq_false (by omega)
    have HE : Hid (M.links p.es = false) := by show _ = _; simp [M.links, h0]
    clear HC
    go_enter Try.func36, Try.ntmps36
    go_wp2_with fail
    go_ret
    exact ⟨by rw [HE.out]; rfl, HB.out⟩
set_option maxHeartbeats 4000000 in
theorem right_any (p : M.Pg) (x : Value) (w : World) (hs : Sm p) (hv : Vs w x p.es) (hk : p.kind = 3) :
    Calls Try.prog 20 #[pv p x] w fun e w' => e = .returned (.bool (M.right p)) ∧ Bel w w' := by
  by_cases hl : p.level ≤ 0
  · have HE : M.right p = M.rises p.high p.es := by simp [M.right, hl]
    rw [HE]
    exact right_leaf p x w hs hv hk hl
  have H := fun W hW => rises_any p x W hs (hv.bel hW)
  have HL := fun W hW => links_any p x W hs (hv.bel hW)
  have B0 : Bel w (w.alloc (.cells #[.int .i64 p.lsn, .int .i64 p.kind, .int .i64 p.level, .int .i64 p.right, .string (M.bs p.high), x] 30)) := Bel.al (Below.refl _ _) _
  have HB : Hid (∀ W, Bel (w.alloc (.cells #[.int .i64 p.lsn, .int .i64 p.kind, .int .i64 p.level, .int .i64 p.right, .string (M.bs p.high), x] 30)) W → Blk W w.heap.size #[.int .i64 p.lsn, .int .i64 p.kind, .int .i64 p.level, .int .i64 p.right, .string (M.bs p.high), x] 30) := fun W hW => (Blk.new w #[.int .i64 p.lsn, .int .i64 p.kind, .int .i64 p.level, .int .i64 p.right, .string (M.bs p.high), x] 30).below hW (Blk.new w _ 30).lt
  obtain ⟨a, n, c, rfl⟩ := slice_of hv
  obtain ⟨lsn, kind, level, right, high, es⟩ := p
  simp only at hk hl
  subst hk
  have q0 : decide (level ≤ 0) = false := decide_eq_false hl
  have HE : Hid (M.right ⟨lsn, 3, level, right, high, es⟩ = (M.rises high es && M.links es)) := by show _ = _; simp [M.right, q0]
  simp only at H HL
  generalize M.links es = lb at *
  cases hr : M.rises high es with
  | true =>
    rw [hr] at H HE
    have HH := hid H
    have HHL := hid HL
    have HB0 := hid B0
    have HE' : Hid (M.right ⟨lsn, 3, level, right, high, es⟩ = lb) := by show _ = _; rw [HE.out]; rfl
    clear H HL B0 hs hv hr HE
    go_enter Try.func20, Try.ntmps20
    go_wp2_with (first
      | (go_at_call 35; refine (HH.out _ HB0.out).mono ?_; rintro e w3 ⟨rfl, b3⟩; obtain ⟨e0, e1, e2, e3, e4, e5⟩ := blk_cells (HB.out w3 b3))
      | (go_at_call 36; refine (HHL.out _ (HB0.out.tr b3)).mono ?_; rintro e w4 ⟨rfl, b4⟩))
    go_ret
    exact ⟨by rw [HE'.out]; rfl, (HB0.out.tr b3).tr b4⟩
  | false =>
    rw [hr] at H HE
    have HH := hid H
    have HB0 := hid B0
    have HE' : Hid (M.right ⟨lsn, 3, level, right, high, es⟩ = false) := by show _ = _; rw [HE.out]; rfl
    clear H HL B0 hs hv hr HE
    go_enter Try.func20, Try.ntmps20
    go_wp2_with (go_at_call 35; refine (HH.out _ HB0.out).mono ?_; rintro e w3 ⟨rfl, b3⟩; obtain ⟨e0, e1, e2, e3, e4, e5⟩ := blk_cells (HB.out w3 b3))
    go_ret
    exact ⟨by rw [HE'.out]; rfl, HB0.out.tr b3⟩
end Go.Proofs.Ytcmplklefeicbaa
