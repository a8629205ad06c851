/-
  The document's Place, With and Free, walked.
-/
import Derived.Test.YtcmplklefeicbaaRM
namespace Go.Proofs.Ytcmplklefeicbaa
open Go.RowKit
set_option maxRecDepth 100000

theorem info33 : (Try.prog.info? 33).map (·.size) = some 6 := by kernel_rfl
theorem info43 : (Try.prog.info? 43).map (fun i => (i.zero, i.size, i.bytes)) = some (some (.agg #[.string ⟨#[]⟩, .string ⟨#[]⟩, .bool false]), 3, 40) := by kernel_rfl
theorem load33 {w : World} {g : Nat} {cs : Array Value} (hg : w.heap[g]? = some (.cells cs 33 (0, 0))) (h6 : cs.size = 6) : (loadVar 33 ⟨g, 0, none⟩).run Try.prog w = .ok (.agg cs) w :=
  run_loadVar_row w g 33 33 cs (0, 0) _ hg (by rfl) rfl (by rw [info33, h6])
theorem results_cell_row1 {fn : Func} {p : Tmp} {ty : TypeId} (h : fn.results = #[.cell p ty]) (tmps : Array Value) (w : World) (g : Nat) (cs : Array Value)
    (hp : tmps.getD p undef = .pointer (some ⟨g, 0, none⟩)) (hl : (loadVar ty ⟨g, 0, none⟩).run Try.prog w = .ok (.agg cs) w) :
    (results fn tmps).run Try.prog w = .ok (.agg cs) w := by
  have hp' : tmps[p]?.getD undef = .pointer (some ⟨g, 0, none⟩) := by simpa using hp
  simp only [results, h]
  simp [hp', asAddr, hl]
set_option maxHeartbeats 2000000 in
theorem place_some (p : M.Pg) (k : List UInt8) (b off cap : Nat) (w : World) (hs : Sm p) (hv : Row3 w b off p.es) (hL : 0 < p.es.length) (hu : M.Up M.cfS p.es) :
    Calls Try.prog 27 #[pv p (.slice (some ⟨b, off, none⟩) p.es.length cap), .string (M.bs k)] w fun e w' => e = .returned (.tuple #[.int .i64 (M.pos M.cfS p.es k : Nat), .bool (M.has M.cfS p.es k)]) ∧ Bel w w' := by
  have hbw := hv.lt hL
  have hmn := M.pos_le (cf := M.cfS) p.es k
  obtain ⟨lsn, kind, level, right, high, es⟩ := p
  obtain ⟨h1, h2, h3⟩ := hs
  simp only at hv hL hu h1 h2 h3 hmn ⊢
  have hlt : ∀ (q : Nat) (hq : q < es.length), M.ltS (es[q]'hq).1 k = decide (q < M.pos M.cfS es k) := fun q hq => by
    by_cases hc : M.pos M.cfS es k ≤ q
    · rw [decide_eq_false (by omega)]
      have : ¬ M.cfS es[q].1 k < 0 := by
        by_cases hp : M.pos M.cfS es k < es.length
        · exact M.up_ge M.ordS hu hp (M.pos_at es k hp) q hq hc
        · omega
      rw [M.cfS_lt] at this
      simpa using this
    · rw [decide_eq_true (by omega)]
      have : M.cfS es[q].1 k < 0 := M.pos_before es k q hq (by omega)
      rw [M.cfS_lt] at this
      exact this
  have hhas : M.has M.cfS es k = if h : M.pos M.cfS es k < es.length then decide (M.cfS (es[M.pos M.cfS es k]'h).1 k = 0) else false := M.has_eq es k
  generalize M.pos M.cfS es k = m at *
  generalize M.has M.cfS es k = hb0 at *
  have HLT := hid hlt
  have HHAS := hid hhas
  have z2 : (M.bs k).toList = k := M.bs_toList _
  have B0 : Bel w (w.alloc (.cells #[.int .i64 lsn, .int .i64 kind, .int .i64 level, .int .i64 right, .string (M.bs high), .slice (some ⟨b, off, none⟩) es.length cap] 33)) := Bel.al (Below.refl _ _) _
  have N0 := Blk.new w #[.int .i64 lsn, .int .i64 kind, .int .i64 level, .int .i64 right, .string (M.bs high), .slice (some ⟨b, off, none⟩) es.length cap] 33
  have hv1 := hv.below B0 hbw
  have c5 : (w.alloc (.cells #[.int .i64 lsn, .int .i64 kind, .int .i64 level, .int .i64 right, .string (M.bs high), .slice (some ⟨b, off, none⟩) es.length cap] 33)).cell? ⟨w.heap.size, 5, none⟩ = some (.slice (some ⟨b, off, none⟩) es.length cap) := by rw [N0.cell]; rfl
  have HB0 := hid B0
  clear hlt hhas hu hv B0 N0
  go_enter Try.func27, Try.ntmps27
  go_wp2_with fail
  generalize w.alloc (.cells #[.int .i64 lsn, .int .i64 kind, .int .i64 level, .int .i64 right, .string (M.bs high), .slice (some ⟨b, off, none⟩) es.length cap] 33) = w1 at *
  go_loopw [6, 7] (fun nv iv wr => ∃ i : Nat, i ≤ es.length ∧ iv = .int .i64 i ∧ nv = .int .i64 ((min i m : Nat) : Int) ∧ wr = w1) (fun _ iv _ => es.length - (intOf iv).toNat)
  case atStart => exact ⟨0, by omega, rfl, by simp, rfl⟩
  case round =>
    obtain ⟨i, hi, rfl, rfl, rfl⟩ := hrel
    by_cases hil : i < es.length
    · obtain ⟨d1, d2, d3⟩ := hv1 i hil
      have hii : (i : Int) < (es.length : Int) := by omega
      have HL := hid (HLT.out i hil)
      generalize (es[i]'hil).1 = x at *
      have z1 : (M.bs x).toList = x := M.bs_toList _
      clear d2 d3
      by_cases hm : i < m
      · have HT : Op.bytesLess x k = true := by have := HL.out; rw [decide_eq_true hm] at this; exact this
        obtain ⟨n0, hn0, hn0'⟩ : ∃ n0, n0 = min i m ∧ n0 = i := ⟨_, rfl, by omega⟩
        rw [← hn0, hn0']
        go_wp2_with fail
        go_roundw
        case rel => exact ⟨i + 1, by omega, by go_num, by rw [show min (i + 1) m = i + 1 by omega]; go_num, trivial⟩
        case measure => simp [intOf]; omega
      · have HT : Op.bytesLess x k = false := by have := HL.out; rw [decide_eq_false hm] at this; exact this
        obtain ⟨n0, hn0, hn0'⟩ : ∃ n0, n0 = min i m ∧ n0 = m := ⟨_, rfl, by omega⟩
        rw [← hn0, hn0']
        go_wp2_with fail
        go_roundw
        case rel => exact ⟨i + 1, by omega, by go_num, by rw [show min (i + 1) m = m by omega], trivial⟩
        case measure => simp [intOf]; omega
    · have hii : ¬ (i : Int) < (es.length : Int) := by omega
      rw [show min i m = m by omega]
      go_wp2_with fail
      by_cases hm : m < es.length
      · have q1 : decide ((m : Int) < (es.length : Int)) = true := decide_eq_true (by omega)
        have hm' : (m : Int) < (es.length : Int) := by omega
        have hhas := HHAS.out
        rw [dif_pos hm] at hhas
        obtain ⟨c1, c2, c3⟩ := hv1 m hm
        clear c2 c3
        have hE : Hid (hb0 = decide (es[m].1 = k)) := by
          show _ = _
          rw [hhas]
          have := M.cfS_zero es[m].1 k
          simp [this]
        clear hhas hv1
        generalize es[m].1 = x at *
        have z1 : (M.bs x).toList = x := M.bs_toList _
        have hxk : Hid ((x == k) = decide (x = k)) := by
          show _ = _
          by_cases h : x = k <;> simp [h]
        go_quiet (fail)
        go_wp2_with fail
        go_ret2
        exact ⟨by rw [hE.out, ← hxk.out]; rfl, HB0.out.tr (below_drewN (Below.refl _ _) _)⟩
      · have q1 : decide ((m : Int) < (es.length : Int)) = false := decide_eq_false (by omega)
        have hm' : ¬ (m : Int) < (es.length : Int) := by omega
        have hhas := HHAS.out
        rw [dif_neg hm] at hhas
        have hE := hid hhas
        clear hhas hv1
        go_quiet (fail)
        go_wp2_with fail
        go_ret2
        exact ⟨by rw [hE.out]; rfl, HB0.out.tr (below_drewN (Below.refl _ _) _)⟩
theorem place_nil (p : M.Pg) (k : List UInt8) (a : Option Addr) (cap : Nat) (w : World) (h0 : p.es = []) :
    Calls Try.prog 27 #[pv p (.slice a 0 cap), .string (M.bs k)] w fun e w' => e = .returned (.tuple #[.int .i64 (M.pos M.cfS p.es k : Nat), .bool (M.has M.cfS p.es k)]) ∧ Bel w w' := by
  obtain ⟨lsn, kind, level, right, high, es⟩ := p
  simp only at h0 ⊢
  subst h0
  have B0 : Bel w (w.alloc (.cells #[.int .i64 lsn, .int .i64 kind, .int .i64 level, .int .i64 right, .string (M.bs high), .slice a 0 cap] 33)) := Bel.al (Below.refl _ _) _
  have HB := hid B0
  clear B0
  go_enter Try.func27, Try.ntmps27
  go_wp2_with fail
  refine wp_loop_rounds 1 ?_
  rw [rounds_succ]
  go_wp2_with fail
  have q1 : decide ((0 : Int) < (0 : Int)) = false := by decide
  go_quiet (fail)
  go_wp2_with fail
  go_ret2
  exact ⟨rfl, HB.out.tr (below_drewN (Below.refl _ _) _)⟩
theorem place_any (p : M.Pg) (x : Value) (k : List UInt8) (w : World) (hs : Sm p) (hv : Vals w x p.es) (hu : M.Up M.cfS p.es) :
    Calls Try.prog 27 #[pv p x, .string (M.bs k)] w fun e w' => e = .returned (.tuple #[.int .i64 (M.pos M.cfS p.es k : Nat), .bool (M.has M.cfS p.es k)]) ∧ Bel w w' := by
  obtain ⟨a, cap, rfl, hv⟩ := hv
  by_cases h0 : p.es = []
  · rw [show p.es.length = 0 by rw [h0]; rfl]; exact place_nil p k a cap w h0
  · obtain ⟨b, off, rfl, hr⟩ := hv.resolve_left h0
    refine place_some p k b off cap w hs hr ?_ hu
    have : p.es.length ≠ 0 := fun h => h0 (List.length_eq_zero_iff.1 h)
    omega
theorem with_any (p : M.Pg) (a : Option Addr) (n c : Nat) (a' : Option Addr) (n' c' : Nat) (w : World) :
    Calls Try.prog 28 #[pv p (.slice a n c), .slice a' n' c'] w fun e w' => e = .returned (pv p (.slice a' n' c')) ∧ Bel w w' := by
  obtain ⟨lsn, kind, level, right, high, es⟩ := p
  obtain ⟨h1, h2⟩ := heap_two w (.cells #[.int .i64 lsn, .int .i64 kind, .int .i64 level, .int .i64 right, .string (M.bs high), .slice a' n' c'] 33) (.cells #[.int .i64 lsn, .int .i64 kind, .int .i64 level, .int .i64 right, .string (M.bs high), .slice a' n' c'] 33)
  have G3 := hid h2
  clear h1 h2
  go_enter Try.func28, Try.ntmps28
  go_wp2_with fail
  refine bodyPost_ret (results_cell_row1 (p := 4) (ty := 33) rfl _ _ (w.heap.size + 1) _ rfl (load33 (cs := #[.int .i64 lsn, .int .i64 kind, .int .i64 level, .int .i64 right, .string (M.bs high), .slice a' n' c']) G3.out rfl)) rfl ?_
  exact ⟨rfl, Bel.al (Bel.al (Below.refl _ _) _) _⟩
set_option maxHeartbeats 1000000 in
theorem rfree_some (p : M.Pg) (b off cap : Nat) (w : World) (hs : Sm p) (hv : Row3 w b off p.es) (hL : 0 < p.es.length) :
    Calls Try.prog 29 #[pv p (.slice (some ⟨b, off, none⟩) p.es.length cap)] w fun e w' => e = .returned (.int .i64 (M.free p)) ∧ Bel w w' := by
  obtain ⟨lsn, kind, level, right, high, es⟩ := p
  obtain ⟨h1, h2, h3⟩ := hs
  simp only at hv hL h1 h2 h3 ⊢
  have hbw := hv.lt hL
  have zh : (M.bs high).size = high.length := M.bs_size high
  have B0 : Bel w (w.alloc (.cells #[.int .i64 lsn, .int .i64 kind, .int .i64 level, .int .i64 right, .string (M.bs high), .slice (some ⟨b, off, none⟩) es.length cap] 33)) := Bel.al (Below.refl _ _) _
  have N0 := Blk.new w #[.int .i64 lsn, .int .i64 kind, .int .i64 level, .int .i64 right, .string (M.bs high), .slice (some ⟨b, off, none⟩) es.length cap] 33
  have HV := hid (hv.below B0 hbw)
  have HB0 := hid B0
  have HN := hid N0
  have c4 : (w.alloc (.cells #[.int .i64 lsn, .int .i64 kind, .int .i64 level, .int .i64 right, .string (M.bs high), .slice (some ⟨b, off, none⟩) es.length cap] 33)).cell? ⟨w.heap.size, 4, none⟩ = some (.string (M.bs high)) := by rw [N0.cell]; rfl
  clear hv B0 N0
  go_enter Try.func29, Try.ntmps29
  go_wp2_with fail
  generalize w.alloc (.cells #[.int .i64 lsn, .int .i64 kind, .int .i64 level, .int .i64 right, .string (M.bs high), .slice (some ⟨b, off, none⟩) es.length cap] 33) = w1 at *
  go_loopw [3, 4] (fun fv i wr => ∃ k : Nat, k ≤ es.length ∧ i = .int .i64 k ∧ fv = .int .i64 (489 - (high.length : Int) - (M.szs (es.take k) : Int)) ∧ Bel w1 wr) (fun _ i _ => es.length - (intOf i).toNat)
  case atStart => exact ⟨0, Nat.zero_le _, rfl, by simp [M.szs], Below.refl _ _⟩
  case round =>
    obtain ⟨k, hk, rfl, rfl, hb⟩ := hrel
    have c5 : wr.cell? ⟨w.heap.size, 5, none⟩ = some (.slice (some ⟨b, off, none⟩) es.length cap) := by rw [(HN.out.below hb HN.out.lt).cell]; rfl
    by_cases hlt : k < es.length
    · obtain ⟨d1, d2, d3⟩ := (HV.out.below hb (Nat.lt_of_lt_of_le hbw HB0.out.size)) k hlt
      have hkl : (k : Int) < (es.length : Int) := by omega
      have he := h3 es[k] (List.getElem_mem hlt)
      have HT : Hid (M.szs (es.take (k + 1)) = M.szs (es.take k) + M.szE es[k]) := by show _ = _; rw [List.take_succ_eq_append_getElem hlt, M.szs_snoc]
      have hsz : M.szs (es.take k) ≤ 2003000 := by
        have := szs_le (es.take k) (fun e he => h3 e (List.mem_of_mem_take he))
        rw [List.length_take] at this
        have : min k es.length * 2003 ≤ 1000 * 2003 := Nat.mul_le_mul_right _ (by omega)
        omega
      clear h3 d3
      generalize es[k] = v at *
      obtain ⟨kk, vv, mm⟩ := v
      simp only at he d1 d2
      have hze : Hid (M.szE (kk, vv, mm) = 3 + kk.length + vv.length) := rfl
      have z1 : (M.bs kk).size = kk.length := M.bs_size _
      have z2 : (M.bs vv).size = vv.length := M.bs_size _
      generalize M.szs (es.take k) = S at *
      go_wp2_with fail
      go_quiet (fail)
      rename_i nq
      go_wp2_with fail
      go_roundw
      case rel => exact ⟨k + 1, by omega, by go_num, by rw [HT.out, hze.out]; go_num, hb.tr (below_drewN (Below.refl _ _) _)⟩
      case measure => simp [intOf]; omega
    · have HF : Hid (M.szs (es.take k) = M.szs es) := by show _ = _; rw [List.take_of_length_le (by omega)]
      have hkl : ¬ (k : Int) < (es.length : Int) := by omega
      go_wp2_with fail
      go_ret
      exact ⟨by rw [HF.out]; rfl, HB0.out.tr hb⟩
theorem rfree_nil (p : M.Pg) (a : Option Addr) (cap : Nat) (w : World) (hs : Sm p) (h0 : p.es = []) :
    Calls Try.prog 29 #[pv p (.slice a 0 cap)] w fun e w' => e = .returned (.int .i64 (M.free p)) ∧ Bel w w' := by
  obtain ⟨lsn, kind, level, right, high, es⟩ := p
  obtain ⟨h1, h2, h3⟩ := hs
  simp only at h0 h1 ⊢
  subst h0
  have zh : (M.bs high).size = high.length := M.bs_size high
  have HE : Hid (M.free ⟨lsn, kind, level, right, high, []⟩ = 489 - (high.length : Int)) := by show _ = _; simp [M.free, M.szs]
  go_enter Try.func29, Try.ntmps29
  go_wp2_with fail
  refine wp_loop_rounds 1 ?_
  rw [rounds_succ]
  go_wp2_with fail
  go_ret
  exact ⟨by rw [HE.out]; rfl, Bel.al (Below.refl _ _) _⟩
theorem rfree_any (p : M.Pg) (x : Value) (w : World) (hs : Sm p) (hv : Vals w x p.es) :
    Calls Try.prog 29 #[pv p x] w fun e w' => e = .returned (.int .i64 (M.free p)) ∧ Bel w w' := by
  obtain ⟨a, cap, rfl, hv⟩ := hv
  by_cases h0 : p.es = []
  · rw [show p.es.length = 0 by rw [h0]; rfl]; exact rfree_nil p a cap w hs h0
  · obtain ⟨b, off, rfl, hr⟩ := hv.resolve_left h0
    refine rfree_some p b off cap w hs hr ?_
    have : p.es.length ≠ 0 := fun h => h0 (List.length_eq_zero_iff.1 h)
    omega
end Go.Proofs.Ytcmplklefeicbaa
