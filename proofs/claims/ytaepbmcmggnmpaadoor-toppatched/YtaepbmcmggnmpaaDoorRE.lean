/-
  The contracts of the document's own answers for layer 5: Free, Encode, walked.
-/
import Derived.Test.YtaepbmcmggnmpaaDoorOR
import Derived.Test.YtaepbmcmggnmpaaDoorRT
namespace Go.Proofs.YtaepbmcmggnmpaaDoor
open Go.RowKit
set_option maxRecDepth 100000

set_option maxHeartbeats 2000000 in
theorem rfree_any (p : M.Pg) (x : Value) (w : World) (hs : Sm p) (hv : Vals w x p.es) :
    Calls Tryd.prog 16 #[pv p x] w fun e w' => e = .returned (.int .i64 (M.free p)) ∧ Bel w w' := by
  obtain ⟨lsn, kind, level, right, high, es⟩ := p
  obtain ⟨h1, h2, h3⟩ := hs
  simp only at hv h1 h2 h3 ⊢
  obtain ⟨a, cap, rfl, _⟩ := id hv
  have zh : (M.bs high).size = high.length := M.bs_size high
  have bW : Bel w (w.alloc (.cells #[.int .i64 lsn, .int .i64 kind, .int .i64 level, .int .i64 right, .string (M.bs high), .slice a es.length cap] 32)) := Bel.al (Below.refl _ _) _
  have g0 : Bt 32 (w.alloc (.cells #[.int .i64 lsn, .int .i64 kind, .int .i64 level, .int .i64 right, .string (M.bs high), .slice a es.length cap] 32)) w.heap.size (.int .i64 lsn) (.int .i64 kind) (.int .i64 level) (.int .i64 right) (.string (M.bs high)) (.slice a es.length cap) := heap_alloc_new w _
  have HV := hid (hv.bel bW)
  clear hv
  go_enter Tryd.func16, Tryd.ntmps16
  go_wp2_with fail
  generalize w.alloc (.cells #[.int .i64 lsn, .int .i64 kind, .int .i64 level, .int .i64 right, .string (M.bs high), .slice a es.length cap] 32) = W0 at *
  go_loopw [3, 4] (fun fv i wr => ∃ k : Nat, k ≤ es.length ∧ i = .int .i64 k ∧ fv = .int .i64 (489 - (high.length : Int) - (M.szs (es.take k) : Int)) ∧ Bel W0 wr) (fun _ i _ => es.length - (intOf i).toNat)
  case atStart => exact ⟨0, Nat.zero_le _, rfl, by simp [M.szs], Below.refl _ _⟩
  case round =>
    obtain ⟨k, hk, rfl, rfl, hb⟩ := hrel
    have x5 := (g0.bel hb).cells.2.2.2.2.2
    by_cases hlt : k < es.length
    · obtain ⟨bx, ox, rfl, hrx⟩ := (HV.out.bel hb).row (by omega)
      obtain ⟨c1, c2, c3⟩ := hrx k hlt
      have he := h3 es[k] (List.getElem_mem hlt)
      have HT : Hid (M.szs (es.take (k + 1)) = M.szs (es.take k) + (3 + es[k].1.length + es[k].2.1.length)) := by show _ = _; rw [List.take_succ_eq_append_getElem hlt, M.szs_snoc]; rfl
      have hsz : M.szs (es.take k) ≤ 2003000 := by
        have := szs_le (es.take k) (fun e he => h3 e (List.mem_of_mem_take he))
        rw [List.length_take] at this
        have : min k es.length * 2003 ≤ 1000 * 2003 := Nat.mul_le_mul_right _ (by omega)
        omega
      clear h3 hrx
      generalize es[k] = v at *
      obtain ⟨kk, vv, mm⟩ := v
      simp only at he c1 c2 c3 HT
      have zk : (M.bs kk).size = kk.length := M.bs_size kk
      have zv : (M.bs vv).size = vv.length := M.bs_size vv
      generalize M.szs (es.take k) = S at *
      go_wp2_with fail
      go_quiet (fail)
      have b3 : Bel wr (wr.drewN nq) := below_drewN (Below.refl _ _) _
      generalize wr.drewN nq = W2 at b3 ⊢
      go_wp2_with fail
      go_roundw
      case rel => exact ⟨k + 1, by omega, by go_num, by rw [HT.out]; go_num, hb.tr b3⟩
      case measure => simp [intOf]; omega
    · have HF : Hid (M.szs (es.take k) = M.szs es) := by show _ = _; rw [List.take_of_length_le (by omega)]
      go_wp2_with fail
      go_ret
      exact ⟨by rw [HF.out]; rfl, bW.tr hb⟩

theorem M.put1_eq (n : Int) (h0 : 0 ≤ n) (h : n ≤ 255) : M.put n 1 = [UInt8.ofNat n.toNat] := by
  have := M.put_len n 1 (by decide) (by decide) h0 (by omega)
  rw [show ((1 : Nat) : Int) = 1 from rfl] at this
  rw [this]
  simp [M.putL]
theorem M.put2_eq (n : Int) (h0 : 0 ≤ n) (h : n ≤ 65535) : M.put n 2 = [UInt8.ofNat (n.toNat / 256), UInt8.ofNat n.toNat] := by
  have := M.put_len n 2 (by decide) (by decide) h0 (by omega)
  rw [show ((2 : Nat) : Int) = 2 from rfl] at this
  rw [this]
  simp [M.putL, List.range_succ]
theorem conv3h {W : World} {g : Nat} {b0 b1 b2 : Int} (h : W.heap[g]? = some (.cells #[.int .u8 b0, .int .u8 b1, .int .u8 b2] 5 (0, 0))) : (convert 54 9 (.slice (some ⟨g, 0, none⟩) 3 3)).run Tryd.prog W = .ok (.string (strOfNums [b0, b1, b2])) W := by
  refine run_convert_bytes_arg (P := Tryd.prog) _ 54 5 Tryd.underlying54 Tryd.underlying5 g 0 3 3 [b0, b1, b2] rfl ?_ 9 Tryd.underlying9
  intro i hi
  rw [Lib.cell_of_heap h]
  match i, hi with
  | 0, _ => rfl
  | 1, _ => rfl
  | 2, _ => rfl
theorem conv7h {W : World} {g : Nat} {b0 b1 b2 b3 b4 b5 b6 : Int} (h : W.heap[g]? = some (.cells #[.int .u8 b0, .int .u8 b1, .int .u8 b2, .int .u8 b3, .int .u8 b4, .int .u8 b5, .int .u8 b6] 5 (0, 0))) : (convert 54 9 (.slice (some ⟨g, 0, none⟩) 7 7)).run Tryd.prog W = .ok (.string (strOfNums [b0, b1, b2, b3, b4, b5, b6])) W := by
  refine run_convert_bytes_arg (P := Tryd.prog) _ 54 5 Tryd.underlying54 Tryd.underlying5 g 0 7 7 [b0, b1, b2, b3, b4, b5, b6] rfl ?_ 9 Tryd.underlying9
  intro i hi
  rw [Lib.cell_of_heap h]
  match i, hi with
  | 0, _ => rfl
  | 1, _ => rfl
  | 2, _ => rfl
  | 3, _ => rfl
  | 4, _ => rfl
  | 5, _ => rfl
  | 6, _ => rfl
theorem conv3n (W : World) (b0 b1 b2 : Int) : (convert 54 9 (.slice (some ⟨W.heap.size, 0, none⟩) 3 3)).run Tryd.prog (W.alloc (.cells #[.int .u8 b0, .int .u8 b1, .int .u8 b2] 5)) = .ok (.string (strOfNums [b0, b1, b2])) (W.alloc (.cells #[.int .u8 b0, .int .u8 b1, .int .u8 b2] 5)) := conv3h (heap_alloc_new W _)
theorem conv7n (W : World) (b0 b1 b2 b3 b4 b5 b6 : Int) : (convert 54 9 (.slice (some ⟨W.heap.size, 0, none⟩) 7 7)).run Tryd.prog (W.alloc (.cells #[.int .u8 b0, .int .u8 b1, .int .u8 b2, .int .u8 b3, .int .u8 b4, .int .u8 b5, .int .u8 b6] 5)) = .ok (.string (strOfNums [b0, b1, b2, b3, b4, b5, b6])) (W.alloc (.cells #[.int .u8 b0, .int .u8 b1, .int .u8 b2, .int .u8 b3, .int .u8 b4, .int .u8 b5, .int .u8 b6] 5)) := conv7h (heap_alloc_new W _)
/-- The head of a page is right. -/
def M.hdB (p : M.Pg) : Prop := 0 ≤ p.lsn ∧ p.lsn < 281474976710656 ∧ 1 ≤ p.kind ∧ p.kind ≤ 255 ∧ 0 ≤ p.level ∧ p.level ≤ 255 ∧ 0 ≤ p.right ∧ p.right ≤ 65535 ∧ p.high.length ≤ 64
theorem M.inB_iff (p : M.Pg) : M.inB p = true ↔ M.hdB p ∧ p.es.any M.longE = false := by
  unfold M.inB M.hdB
  simp only [Bool.and_eq_true, M.btw_iff, decide_eq_true_eq, Bool.not_eq_true']
  constructor
  · rintro ⟨⟨⟨⟨⟨h1, h2⟩, h3⟩, h4⟩, h5⟩, h6⟩
    exact ⟨⟨by omega, by omega, by omega, by omega, by omega, by omega, by omega, by omega, h5⟩, h6⟩
  · rintro ⟨⟨h1, h2, h3, h4, h5, h6, h7, h8, h9⟩, h10⟩
    exact ⟨⟨⟨⟨⟨⟨h1, by omega⟩, h3, h4⟩, h5, h6⟩, h7, h8⟩, h9⟩, h10⟩
set_option maxHeartbeats 4000000 in
theorem rencode_head (p : M.Pg) (a : Option Addr) (cap : Nat) (w : World) (h : ¬ M.hdB p) :
    Calls Tryd.prog 14 #[pv p (.slice a p.es.length cap)] w fun e w' => e = .returned (.tuple #[.string (M.bs []), .int .i64 1]) ∧ Bel w w' := by
  obtain ⟨lsn, kind, level, right, high, es⟩ := p
  unfold M.hdB at h
  simp only at h ⊢
  have zh : (M.bs high).size = high.length := M.bs_size high
  have HH := hid h
  clear h
  have bW : Bel w (w.alloc (.cells #[.int .i64 lsn, .int .i64 kind, .int .i64 level, .int .i64 right, .string (M.bs high), .slice a es.length cap] 32)) := Bel.al (Below.refl _ _) _
  go_enter Tryd.func14, Tryd.ntmps14
  by_cases t0 : lsn < 0
  case pos =>
    have d0 : decide (lsn < 0) = true := decide_eq_true t0
    go_wp2_with fail
    go_ret2
    exact ⟨rfl, bW⟩
  have d0 : decide (lsn < 0) = false := decide_eq_false t0
  by_cases t1 : 281474976710656 ≤ lsn
  case pos =>
    have d1 : decide (281474976710656 ≤ lsn) = true := decide_eq_true t1
    go_wp2_with fail
    go_ret2
    exact ⟨rfl, bW⟩
  have d1 : decide (281474976710656 ≤ lsn) = false := decide_eq_false t1
  by_cases t2 : kind < 1
  case pos =>
    have d2 : decide (kind < 1) = true := decide_eq_true t2
    go_wp2_with fail
    go_ret2
    exact ⟨rfl, bW⟩
  have d2 : decide (kind < 1) = false := decide_eq_false t2
  by_cases t3 : 255 < kind
  case pos =>
    have d3 : decide (255 < kind) = true := decide_eq_true t3
    go_wp2_with fail
    go_ret2
    exact ⟨rfl, bW⟩
  have d3 : decide (255 < kind) = false := decide_eq_false t3
  by_cases t4 : level < 0
  case pos =>
    have d4 : decide (level < 0) = true := decide_eq_true t4
    go_wp2_with fail
    go_ret2
    exact ⟨rfl, bW⟩
  have d4 : decide (level < 0) = false := decide_eq_false t4
  by_cases t5 : 255 < level
  case pos =>
    have d5 : decide (255 < level) = true := decide_eq_true t5
    go_wp2_with fail
    go_ret2
    exact ⟨rfl, bW⟩
  have d5 : decide (255 < level) = false := decide_eq_false t5
  by_cases t6 : right < 0
  case pos =>
    have d6 : decide (right < 0) = true := decide_eq_true t6
    go_wp2_with fail
    go_ret2
    exact ⟨rfl, bW⟩
  have d6 : decide (right < 0) = false := decide_eq_false t6
  by_cases t7 : 65535 < right
  case pos =>
    have d7 : decide (65535 < right) = true := decide_eq_true t7
    go_wp2_with fail
    go_ret2
    exact ⟨rfl, bW⟩
  have d7 : decide (65535 < right) = false := decide_eq_false t7
  by_cases t8 : (64 : Int) < (high.length : Int)
  case pos =>
    have d8 : decide ((64 : Int) < (high.length : Int)) = true := decide_eq_true t8
    go_wp2_with fail
    go_ret2
    exact ⟨rfl, bW⟩
  have d8 : decide ((64 : Int) < (high.length : Int)) = false := decide_eq_false t8
  exact absurd ⟨by omega, by omega, by omega, by omega, by omega, by omega, by omega, by omega, by omega⟩ HH.out
end Go.Proofs.YtaepbmcmggnmpaaDoor
