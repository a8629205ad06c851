/-
  The law's 'same', of pages that are the same, walked.
-/
import Derived.Test.YtcmplklefeicbaaEA
namespace Go.Proofs.Ytcmplklefeicbaa
open Go.RowKit
set_option maxRecDepth 100000

set_option maxHeartbeats 4000000 in
theorem same_some (p : M.Pg) (b off cap b' off' cap' : Nat) (w : World) (hs : Sm p) (hL : 0 < p.es.length) (hr : Row3 w b off p.es) (hr' : Row3 w b' off' p.es) :
    Calls Try.prog 13 #[pv p (.slice (some ⟨b, off, none⟩) p.es.length cap), pv p (.slice (some ⟨b', off', none⟩) p.es.length cap')] w fun e w' => e = .returned (.bool true) ∧ Bel w w' := by
  have hb := hr.lt hL
  have hb' := hr'.lt hL
  obtain ⟨lsn, kind, level, right, high, es⟩ := p
  have h2 := hs.es
  simp only at hL hr hr' h2 ⊢
  obtain ⟨q1, q2⟩ := heap_two w (.cells #[.int .i64 lsn, .int .i64 kind, .int .i64 level, .int .i64 right, .string (M.bs high), .slice (some ⟨b, off, none⟩) es.length cap] 30) (.cells #[.int .i64 lsn, .int .i64 kind, .int .i64 level, .int .i64 right, .string (M.bs high), .slice (some ⟨b', off', none⟩) es.length cap'] 33)
  have Q1 : Hid (Blk _ w.heap.size #[.int .i64 lsn, .int .i64 kind, .int .i64 level, .int .i64 right, .string (M.bs high), .slice (some ⟨b, off, none⟩) es.length cap] 30) := q1
  have Q2 : Hid (Blk _ (w.heap.size + 1) #[.int .i64 lsn, .int .i64 kind, .int .i64 level, .int .i64 right, .string (M.bs high), .slice (some ⟨b', off', none⟩) es.length cap'] 33) := q2
  have B0 : Bel w ((w.alloc (.cells #[.int .i64 lsn, .int .i64 kind, .int .i64 level, .int .i64 right, .string (M.bs high), .slice (some ⟨b, off, none⟩) es.length cap] 30)).alloc (.cells #[.int .i64 lsn, .int .i64 kind, .int .i64 level, .int .i64 right, .string (M.bs high), .slice (some ⟨b', off', none⟩) es.length cap'] 33)) := Bel.al (Bel.al (Below.refl _ _) _) _
  have R1 := hid (hr.below B0 hb)
  have R2 := hid (hr'.below B0 hb')
  have HB0 := hid B0
  have hbw := Nat.lt_of_lt_of_le hb B0.size
  have hbw' := Nat.lt_of_lt_of_le hb' B0.size
  clear hr hr' B0 q1 q2 hb hb'
  go_enter Try.func13, Try.ntmps13
  go_wp2_with fail
  generalize (w.alloc (.cells #[.int .i64 lsn, .int .i64 kind, .int .i64 level, .int .i64 right, .string (M.bs high), .slice (some ⟨b, off, none⟩) es.length cap] 30)).alloc (.cells #[.int .i64 lsn, .int .i64 kind, .int .i64 level, .int .i64 right, .string (M.bs high), .slice (some ⟨b', off', none⟩) es.length cap'] 33) = w1 at *
  go_loopw [5] (fun iv wr => ∃ i : Nat, i ≤ es.length ∧ iv = .int .i64 i ∧ Bel w1 wr) (fun iv _ => es.length - (intOf iv).toNat)
  case atStart => exact ⟨0, Nat.zero_le _, rfl, Below.refl _ _⟩
  case round =>
    obtain ⟨i, hi, rfl, hbr⟩ := hrel
    have c5 : wr.cell? ⟨w.heap.size, 5, none⟩ = some (.slice (some ⟨b, off, none⟩) es.length cap) := by rw [(Q1.out.below hbr Q1.out.lt).cell]; rfl
    have c5' : wr.cell? ⟨w.heap.size + 1, 5, none⟩ = some (.slice (some ⟨b', off', none⟩) es.length cap') := by rw [(Q2.out.below hbr Q2.out.lt).cell]; rfl
    by_cases hlt : i < es.length
    · obtain ⟨d1, d2, d3⟩ := (R1.out.below hbr hbw) i hlt
      obtain ⟨e1, e2, e3⟩ := (R2.out.below hbr hbw') i hlt
      have hii : (i : Int) < (es.length : Int) := by omega
      generalize (es[i]'hlt) = ex at *
      obtain ⟨kk, vv, mm⟩ := ex
      simp only at d1 d2 d3 e1 e2 e3
      go_wp2_with fail
      go_quiet (fail)
      rename_i nq
      go_wp2_with fail
      go_roundw
      case rel => exact ⟨i + 1, by omega, by go_num, hbr.tr (below_drewN (Below.refl _ _) _)⟩
      case measure => simp [intOf]; omega
    · have hii : ¬ (i : Int) < (es.length : Int) := by omega
      go_wp2_with fail
      go_ret
      exact ⟨rfl, HB0.out.tr hbr⟩
theorem same_nil (p : M.Pg) (a : Option Addr) (cap : Nat) (a' : Option Addr) (cap' : Nat) (w : World) (h0 : p.es = []) :
    Calls Try.prog 13 #[pv p (.slice a 0 cap), pv p (.slice a' 0 cap')] w fun e w' => e = .returned (.bool true) ∧ Bel w w' := by
  obtain ⟨lsn, kind, level, right, high, es⟩ := p
  simp only at h0 ⊢
  go_enter Try.func13, Try.ntmps13
  go_wp2_with fail
  refine wp_loop_rounds 1 ?_
  rw [rounds_succ]
  go_wp2_with fail
  go_ret
  exact ⟨rfl, Bel.al (Bel.al (Below.refl _ _) _) _⟩
theorem same_any (p : M.Pg) (x y : Value) (w : World) (hs : Sm p) (hx : Vals w x p.es) (hy : Vals w y p.es) :
    Calls Try.prog 13 #[pv p x, pv p y] w fun e w' => e = .returned (.bool true) ∧ Bel w w' := by
  obtain ⟨a, cap, rfl, hx⟩ := hx
  obtain ⟨a', cap', rfl, hy⟩ := hy
  by_cases h0 : p.es = []
  · rw [show p.es.length = 0 by rw [h0]; rfl]; exact same_nil p a cap a' cap' w h0
  · obtain ⟨b, off, rfl, hr⟩ := hx.resolve_left h0
    obtain ⟨b', off', rfl, hr'⟩ := hy.resolve_left h0
    refine same_some p b off cap b' off' cap' w hs ?_ hr hr'
    have : p.es.length ≠ 0 := fun h => h0 (List.length_eq_zero_iff.1 h)
    omega
end Go.Proofs.Ytcmplklefeicbaa
