/-
  The contract of node's Find, walked.
-/
import Derived.Test.YtcmplklefeicbaaP
import Derived.Test.YtcmplklefeicbaaQA
import Derived.BigQuiet
import Derived.Deep.QuietTactic
namespace Go.Proofs.Ytcmplklefeicbaa
open Go.RowKit
set_option maxRecDepth 100000

theorem search_any (n m : Nat) (pb kb : Nat) (hn : n ≤ 100000) (hm : m ≤ n) (w : World)
    (hf : ∀ (W : World) (q : Nat), Bel w W → q < n → Calls Try.prog 38 #[.int .i64 q, .pointer (some ⟨pb, 0, none⟩), .pointer (some ⟨kb, 0, none⟩)] W fun e w' => e = .returned (.bool (decide (m ≤ q))) ∧ Bel W w') :
    Calls Try.prog 37 #[.int .i64 n, .func (.func 38) #[] #[.pointer (some ⟨pb, 0, none⟩), .pointer (some ⟨kb, 0, none⟩)]] w fun e w' => e = .returned (.int .i64 (m : Nat)) ∧ Bel w w' := by
  go_enter Try.func37, Try.ntmps37
  go_wp2_with fail
  go_loopw [5, 6] (fun lo hi wr => ∃ i j : Nat, i ≤ m ∧ m ≤ j ∧ j ≤ n ∧ lo = .int .i64 i ∧ hi = .int .i64 j ∧ Bel w wr) (fun lo hi _ => (intOf hi - intOf lo).toNat)
  case atStart => exact ⟨0, n, by omega, hm, by omega, rfl, rfl, Below.refl _ _⟩
  case round =>
    obtain ⟨i, j, h1, h2, h3, rfl, rfl, hb⟩ := hrel
    by_cases hlt : i < j
    · have hij : (i : Int) < (j : Int) := by omega
      go_wp2_with fail
      obtain ⟨q, hq, hq1, hq2⟩ : ∃ q : Nat, ((i : Int) + (j : Int)) / 2 = (q : Int) ∧ i ≤ q ∧ q < j := ⟨(i + j) / 2, by omega, by omega, by omega⟩
      rw [hq]
      refine (hf wr q hb (by omega)).mono ?_
      rintro e w2 ⟨rfl, b2⟩
      have hb2 := hb.tr b2
      clear hb b2 hq
      by_cases hc : m ≤ q
      · have hd : decide (m ≤ q) = true := decide_eq_true hc
        rw [hd]
        clear hd
        go_wp2_with fail
        go_roundw
        case rel => exact ⟨i, q, h1, hc, by omega, rfl, rfl, hb2⟩
        case measure => simp [intOf]; omega
      · have hd : decide (m ≤ q) = false := decide_eq_false hc
        rw [hd]
        clear hd
        go_wp2_with fail
        go_roundw
        case rel => exact ⟨q + 1, j, by omega, h2, h3, by go_num, rfl, hb2⟩
        case measure => simp [intOf]; omega
    · have hij : ¬ (i : Int) < (j : Int) := by omega
      obtain rfl : i = m := by omega
      go_wp2_with fail
      go_ret
      exact ⟨rfl, hb⟩
theorem key_any (w : World) (pb kb b off cap : Nat) (L : List M.En) (k : List UInt8) (q : Nat) (hq : q < L.length) (hr : Row3 w b off L) (cp : w.cell? ⟨pb, 5, none⟩ = some (.slice (some ⟨b, off, none⟩) L.length cap)) (ck : w.cell? ⟨kb, 0, none⟩ = some (.string (M.bs k))) (_hl : L.length ≤ 100000) :
    Calls Try.prog 38 #[.int .i64 q, .pointer (some ⟨pb, 0, none⟩), .pointer (some ⟨kb, 0, none⟩)] w fun e w' => e = .returned (.bool (!M.ltS L[q].1 k)) ∧ Bel w w' := by
  obtain ⟨c1, _, _⟩ := hr q hq
  have hq' : (q : Int) < (L.length : Int) := by omega
  have z1 : (M.bs L[q].1).toList = L[q].1 := M.bs_toList _
  have z2 : (M.bs k).toList = k := M.bs_toList _
  clear hr
  generalize L[q].1 = x at *
  go_enter Try.func38, Try.ntmps38
  go_wp2_with fail
  go_quiet (fail)
  rename_i nq
  go_wp2_with fail
  go_ret
  exact ⟨rfl, below_drewN (Below.refl _ _) _⟩
set_option maxHeartbeats 2000000 in
theorem find_some (p : M.Pg) (k : List UInt8) (b off cap : Nat) (w : World) (hs : Sm p) (hv : Row3 w b off p.es) (hL : 0 < p.es.length) (hu : M.Up M.cfS p.es) :
    Calls Try.prog 24 #[pv p (.slice (some ⟨b, off, none⟩) p.es.length cap), .string (M.bs k)] w fun e w' => e = .returned (.tuple #[.int .i64 (M.pos M.cfS p.es k : Nat), .bool (M.has M.cfS p.es k)]) ∧ Bel w w' := by
  have hbw := hv.lt hL
  have hmn := M.pos_le (cf := M.cfS) p.es k
  obtain ⟨lsn, kind, level, right, high, es⟩ := p
  obtain ⟨h1, h2, h3⟩ := hs
  simp only at hv hL hu h1 h2 h3 hmn ⊢
  have hS : ∀ W : World, Bel ((w.alloc (.cells #[.int .i64 lsn, .int .i64 kind, .int .i64 level, .int .i64 right, .string (M.bs high), .slice (some ⟨b, off, none⟩) es.length cap] 30)).alloc (.cells #[.string (M.bs k)] 9)) W → W.cell? ⟨w.heap.size, 5, none⟩ = some (.slice (some ⟨b, off, none⟩) es.length cap) ∧ W.cell? ⟨w.heap.size + 1, 0, none⟩ = some (.string (M.bs k)) ∧ Row3 W b off es ∧ Bel w W := fun W hW => by
    have hb : Bel w W := (Bel.al (Bel.al (Below.refl _ _) _) _).tr hW
    obtain ⟨t1, t2⟩ := heap_two w (.cells #[.int .i64 lsn, .int .i64 kind, .int .i64 level, .int .i64 right, .string (M.bs high), .slice (some ⟨b, off, none⟩) es.length cap] 30) (.cells #[.string (M.bs k)] 9)
    exact ⟨(bel_cell hW (Array.getElem?_eq_some_iff.1 t1).1 5).trans (cell_of t1 rfl), (bel_cell hW (Array.getElem?_eq_some_iff.1 t2).1 0).trans (cell_of t2 rfl), hv.below hb hbw, hb⟩
  have hlt : ∀ (q : Nat) (hq : q < es.length), (!M.ltS (es[q]'hq).1 k) = decide (M.pos M.cfS es k ≤ q) := fun q hq => by
    by_cases hc : M.pos M.cfS es k ≤ q
    · rw [decide_eq_true hc]
      have : ¬ M.cfS es[q].1 k < 0 := by
        by_cases hp : M.pos M.cfS es k < es.length
        · exact M.up_ge M.ordS hu hp (M.pos_at es k hp) q hq hc
        · omega
      rw [M.cfS_lt] at this
      simpa using this
    · rw [decide_eq_false hc]
      have : M.cfS es[q].1 k < 0 := M.pos_before es k q hq (by omega)
      rw [M.cfS_lt] at this
      simp [this]
  have hsr : ∀ W, Bel ((w.alloc (.cells #[.int .i64 lsn, .int .i64 kind, .int .i64 level, .int .i64 right, .string (M.bs high), .slice (some ⟨b, off, none⟩) es.length cap] 30)).alloc (.cells #[.string (M.bs k)] 9)) W → Calls Try.prog 37 #[.int .i64 es.length, .func (.func 38) #[] #[.pointer (some ⟨w.heap.size, 0, none⟩), .pointer (some ⟨w.heap.size + 1, 0, none⟩)]] W fun e w' => e = .returned (.int .i64 (M.pos M.cfS es k : Nat)) ∧ Bel W w' := fun W hW =>
    search_any es.length (M.pos M.cfS es k) _ _ (by omega) hmn W (fun W' q hW' hq => by
      obtain ⟨s1, s2, s3, _⟩ := hS W' (hW.tr hW')
      have := key_any W' w.heap.size (w.heap.size + 1) b off cap es k q hq s3 s1 s2 (by omega)
      rwa [hlt q hq] at this)
  have hsr0 := hsr _ (Below.refl _ _)
  have hhas : M.has M.cfS es k = if h : M.pos M.cfS es k < es.length then decide (M.cfS (es[M.pos M.cfS es k]'h).1 k = 0) else false := M.has_eq es k
  generalize M.pos M.cfS es k = m at *
  generalize M.has M.cfS es k = hb0 at *
  have HS := hid hS
  clear hS hsr hlt hu
  go_enter Try.func24, Try.ntmps24
  go_wp2_with (go_at_call 37; refine hsr0.mono ?_; rintro e w3 ⟨rfl, b3⟩; obtain ⟨s1, s2, s3, s4⟩ := HS.out w3 b3)
  by_cases hm : m < es.length
  · have q1 : decide ((m : Int) < (es.length : Int)) = true := decide_eq_true (by omega)
    have hm' : (m : Int) < (es.length : Int) := by omega
    rw [dif_pos hm] at hhas
    obtain ⟨c1, c2, c3⟩ := s3 m hm
    clear c2 c3
    have hE : Hid (hb0 = decide (es[m].1 = k)) := by
      show _ = _
      rw [hhas]
      have := M.cfS_zero es[m].1 k
      simp [this]
    clear hhas s3
    generalize es[m].1 = x at *
    have z1 : (M.bs x).toList = x := M.bs_toList _
    have z2 : (M.bs k).toList = k := M.bs_toList _
    have hxk : Hid ((x == k) = decide (x = k)) := by
      show _ = _
      by_cases h : x = k <;> simp [h]
    go_quiet (fail)
    go_wp2_with fail
    go_ret2
    exact ⟨by rw [hE.out, ← hxk.out]; rfl, s4.tr (below_drewN (Below.refl _ _) _)⟩
  · have q1 : decide ((m : Int) < (es.length : Int)) = false := decide_eq_false (by omega)
    have hm' : ¬ (m : Int) < (es.length : Int) := by omega
    rw [dif_neg hm] at hhas
    have hE := hid hhas
    clear hhas s3
    go_quiet (fail)
    go_wp2_with fail
    go_ret2
    exact ⟨by rw [hE.out]; rfl, s4.tr (below_drewN (Below.refl _ _) _)⟩
theorem find_nil (p : M.Pg) (k : List UInt8) (a : Option Addr) (cap : Nat) (w : World) (h0 : p.es = []) :
    Calls Try.prog 24 #[pv p (.slice a 0 cap), .string (M.bs k)] w fun e w' => e = .returned (.tuple #[.int .i64 (M.pos M.cfS p.es k : Nat), .bool (M.has M.cfS p.es k)]) ∧ Bel w w' := by
  obtain ⟨lsn, kind, level, right, high, es⟩ := p
  simp only at h0 ⊢
  subst h0
  have hsr := fun W => search_any 0 0 w.heap.size (w.heap.size + 1) (by omega) (by omega) W (fun _ _ _ h => absurd h (by omega))
  have B0 : Bel w ((w.alloc (.cells #[.int .i64 lsn, .int .i64 kind, .int .i64 level, .int .i64 right, .string (M.bs high), .slice a 0 cap] 30)).alloc (.cells #[.string (M.bs k)] 9)) := Bel.al (Bel.al (Below.refl _ _) _) _
  have HC : Hid (∀ W : World, Bel ((w.alloc (.cells #[.int .i64 lsn, .int .i64 kind, .int .i64 level, .int .i64 right, .string (M.bs high), .slice a 0 cap] 30)).alloc (.cells #[.string (M.bs k)] 9)) W → W.cell? ⟨w.heap.size, 5, none⟩ = some (.slice a 0 cap)) := fun W hW => by
    obtain ⟨t1, t2⟩ := heap_two w (.cells #[.int .i64 lsn, .int .i64 kind, .int .i64 level, .int .i64 right, .string (M.bs high), .slice a 0 cap] 30) (.cells #[.string (M.bs k)] 9)
    exact (bel_cell hW (Array.getElem?_eq_some_iff.1 t1).1 5).trans (cell_of t1 rfl)
  have HB := hid B0
  clear B0
  go_enter Try.func24, Try.ntmps24
  go_wp2_with (go_at_call 37; refine (hsr _).mono ?_; rintro e w3 ⟨rfl, b3⟩; have s1 := HC.out w3 b3)
  have q1 : decide ((0 : Int) < (0 : Int)) = false := by decide
  go_quiet (fail)
  go_wp2_with fail
  go_ret2
  exact ⟨rfl, (HB.out.tr b3).tr (below_drewN (Below.refl _ _) _)⟩
theorem find_any (p : M.Pg) (x : Value) (k : List UInt8) (w : World) (hs : Sm p) (hv : Vals w x p.es) (hu : M.Up M.cfS p.es) :
    Calls Try.prog 24 #[pv p x, .string (M.bs k)] w fun e w' => e = .returned (.tuple #[.int .i64 (M.pos M.cfS p.es k : Nat), .bool (M.has M.cfS p.es k)]) ∧ Bel w w' := by
  obtain ⟨a, cap, rfl, hv⟩ := hv
  by_cases h0 : p.es = []
  · rw [show p.es.length = 0 by rw [h0]; rfl]; exact find_nil p k a cap w h0
  · obtain ⟨b, off, rfl, hr⟩ := hv.resolve_left h0
    refine find_some p k b off cap w hs hr ?_ hu
    have : p.es.length ≠ 0 := fun h => h0 (List.length_eq_zero_iff.1 h)
    omega
end Go.Proofs.Ytcmplklefeicbaa
