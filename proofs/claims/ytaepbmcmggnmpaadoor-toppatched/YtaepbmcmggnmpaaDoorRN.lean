/-
  The contract of the document's own Encode for layer 5, walked.
-/
import Derived.Test.YtaepbmcmggnmpaaDoorRE
import Derived.Test.YtaepbmcmggnmpaaDoorR
import Derived.Test.YtaepbmcmggnmpaaDoorOU
import Derived.Test.YtaepbmcmggnmpaaDoorG
namespace Go.Proofs.YtaepbmcmggnmpaaDoor
open Go.RowKit
set_option maxRecDepth 100000

/-- A call of the document's Put at a step of a region that draws its order. -/
theorem stepP {ops : Array Oper} {o : Oper} {a : Act} {K : Act → World → Prop} {Q : Exit → Act → World → Prop} {E : Prop} {W : World} (hw : Region.wanted o (yielded ops a.tmps) = true) (t : Tmp) (c : Value)
    (ho : o.op = .call { callee := .value (.func 43), args := #[.tmp t, .const c], argTypes := #[3, 3] }) (x : Value) (hx : a.eval (.tmp t) = x) {R : Ending → World → Prop}
    (H : Calls Tryd.prog 43 #[x, c] W R) (h : ∀ e w', R e w' → ∃ v, e = .returned v ∧ K (a.put o.dst v) w') :
    if Region.wanted o (yielded ops a.tmps) = true then Oper.wp Tryd.prog o a W K Q else E := by
  rw [if_pos hw]
  have hx' : a.tmps[t]?.getD undef = x := by rw [← hx]; simp [Act.eval]
  clear hx hw
  obtain ⟨dst, op, type, pos, after, guard⟩ := o
  simp only at ho h ⊢
  subst ho
  go_simp
  refine H.mono ?_
  intro e w' hR
  obtain ⟨v, rfl, hv⟩ := h e w' hR
  exact hv
theorem rhead_bytes (p : M.Pg) (h : M.hdB p) (he : p.es.length ≤ 65535) : strOfNums [p.kind, p.level, p.right / 256, p.right % 256, (p.high.length : Int), (p.es.length : Int) / 256, (p.es.length : Int) % 256] = M.bs (M.put p.kind 1 ++ M.put p.level 1 ++ M.put p.right 2 ++ M.put (p.high.length : Int) 1 ++ M.put (p.es.length : Int) 2) := by
  obtain ⟨h1, h2, h3, h4, h5, h6, h7, h8, h9⟩ := h
  rw [M.nums_bs, M.put1_eq p.kind (by omega) (by omega), M.put1_eq p.level (by omega) (by omega), M.put2_eq p.right (by omega) (by omega), M.put1_eq (p.high.length : Int) (by omega) (by omega), M.put2_eq (p.es.length : Int) (by omega) (by omega)]
  congr 1
  simp only [List.map_cons, List.map_nil]
  rw [show (p.right / 256).toNat = p.right.toNat / 256 by omega, show (p.right % 256).toNat = p.right.toNat % 256 by omega, show ((p.es.length : Int) / 256).toNat = ((p.es.length : Int)).toNat / 256 by omega, show ((p.es.length : Int) % 256).toNat = ((p.es.length : Int)).toNat % 256 by omega, M.ofNat_mod, M.ofNat_mod]
  rfl
theorem rent_bytes (kk vv : List UInt8) (m : Bool) (hk : kk.length ≤ 64) (hv : vv.length ≤ 100) : M.bs [UInt8.ofNat (M.markN m), UInt8.ofNat kk.length, UInt8.ofNat vv.length] = M.bs (M.put (M.markN m : Int) 1 ++ M.put (kk.length : Int) 1 ++ M.put (vv.length : Int) 1) := by
  have := M.markN_le m
  rw [M.put1_eq (M.markN m : Int) (by omega) (by omega), M.put1_eq (kk.length : Int) (by omega) (by omega), M.put1_eq (vv.length : Int) (by omega) (by omega)]
  simp
theorem szs_le2 (L : List M.En) (h : ∀ e ∈ L, e.1.length ≤ 64 ∧ e.2.1.length ≤ 100) : M.szs L ≤ L.length * 167 := by
  induction L with
  | nil => simp [M.szs]
  | cons e L ih =>
    have := ih (fun x hx => h x (by simp [hx]))
    have := h e (by simp)
    simp only [M.szs, M.szE, List.length_cons]; omega
theorem flat_le (es : List M.En) (k : Nat) (h : ∀ e ∈ es, e.1.length ≤ 64 ∧ e.2.1.length ≤ 100) (hes : es.length ≤ 163 := by omega) : ((es.take k).flatMap M.encE).length ≤ 40000 := by
  rw [M.flat_length _ (fun e he => h e (List.mem_of_mem_take he))]
  have := szs_le2 (es.take k) (fun e he => h e (List.mem_of_mem_take he))
  rw [List.length_take] at this
  have : min k es.length * 167 ≤ 163 * 167 := Nat.mul_le_mul_right _ (by omega)
  omega
set_option maxHeartbeats 8000000 in
theorem rencode_body (p : M.Pg) (a : Option Addr) (cap : Nat) (w : World) (hs : Sm p) (hv : Vals w (.slice a p.es.length cap) p.es) (h : M.hdB p) :
    Calls Tryd.prog 14 #[pv p (.slice a p.es.length cap)] w fun e w' => e = .returned (.tuple #[.string (M.bs (M.encode p).1), .int .i64 ((M.encode p).2 : Int)]) ∧ Bel w w' := by
  have HI := hid (M.inB_iff p)
  have HFr := fun W hv => rfree_any p (.slice a p.es.length cap) W hs hv
  have HHD := hid h
  have HP : Hid (∃ P, P = p) := ⟨_, rfl⟩
  obtain ⟨P, HP⟩ := HP.out
  have HP := hid HP
  obtain ⟨lsn, kind, level, right, high, es⟩ := p
  unfold M.hdB at h
  simp only at h HFr hv ⊢
  obtain ⟨h1, h2, h3, h4, h5, h6, h7, h8, h9⟩ := h
  obtain ⟨s1, s2, s3⟩ := hs
  simp only at s1 s2 s3
  have zh : (M.bs high).size = high.length := M.bs_size high
  have bW : Bel w (w.alloc (.cells #[.int .i64 lsn, .int .i64 kind, .int .i64 level, .int .i64 right, .string (M.bs high), .slice a es.length cap] 32)) := Bel.al (Below.refl _ _) _
  have g0 : Bt 32 (w.alloc (.cells #[.int .i64 lsn, .int .i64 kind, .int .i64 level, .int .i64 right, .string (M.bs high), .slice a es.length cap] 32)) w.heap.size (.int .i64 lsn) (.int .i64 kind) (.int .i64 level) (.int .i64 right) (.string (M.bs high)) (.slice a es.length cap) := heap_alloc_new w _
  have HV := hid (hv.bel bW)
  clear hv
  have d0 : decide (lsn < 0) = false := decide_eq_false (by omega)
  have d1 : decide (281474976710656 ≤ lsn) = false := decide_eq_false (by omega)
  have d2 : decide (kind < 1) = false := decide_eq_false (by omega)
  have d3 : decide (255 < kind) = false := decide_eq_false (by omega)
  have d4 : decide (level < 0) = false := decide_eq_false (by omega)
  have d5 : decide (255 < level) = false := decide_eq_false (by omega)
  have d6 : decide (right < 0) = false := decide_eq_false (by omega)
  have d7 : decide (65535 < right) = false := decide_eq_false (by omega)
  have d8 : decide ((64 : Int) < (high.length : Int)) = false := decide_eq_false (by omega)
  have GA : Hid ((M.bs []).size = 0) := rfl
  go_enter Tryd.func14, Tryd.ntmps14
  go_wp2_with fail
  generalize w.alloc (.cells #[.int .i64 lsn, .int .i64 kind, .int .i64 level, .int .i64 right, .string (M.bs high), .slice a es.length cap] 32) = W0 at *
  go_loopw [4] (fun i wr => ∃ k : Nat, k ≤ es.length ∧ i = .int .i64 k ∧ (es.take k).any M.longE = false ∧ W0 = wr) (fun i _ => es.length - (intOf i).toNat)
  case atStart => exact ⟨0, Nat.zero_le _, rfl, rfl, rfl⟩
  case round =>
    obtain ⟨k, hk, rfl, hno, rfl⟩ := hrel
    have HNo := hid hno
    clear hno
    obtain ⟨x0, x1, x2, x3, x4, x5⟩ := g0.cells
    by_cases hlt : k < es.length
    · obtain ⟨bx, ox, rfl, hrx⟩ := HV.out.row (by omega)
      obtain ⟨c1, c2, c3⟩ := hrx k hlt
      have he := s3 es[k] (List.getElem_mem hlt)
      have HY : Hid (M.longE es[k] = true → M.encode ⟨lsn, kind, level, right, high, es⟩ = ([], 1)) := fun hl => by
        unfold M.encode
        rw [if_neg]
        rw [HI.out]
        intro hh
        have := List.any_eq_false.1 hh.2 es[k] (List.getElem_mem hlt)
        exact this hl
      have HN : Hid (M.longE es[k] = false → (es.take (k + 1)).any M.longE = false) := fun h => by rw [List.take_succ_eq_append_getElem hlt, List.any_append, HNo.out]; simp [h]
      clear s3 hrx
      generalize es[k] = v at *
      obtain ⟨kk, vv, mm⟩ := v
      simp only at he c1 c2 c3
      have zk : (M.bs kk).size = kk.length := M.bs_size kk
      have zv : (M.bs vv).size = vv.length := M.bs_size vv
      by_cases hl1 : 64 < kk.length
      · have HE := hid (HY.out (by simp [M.longE, hl1]))
        have q1 : decide ((64 : Int) < (kk.length : Int)) = true := decide_eq_true (by omega)
        clear HY HN
        go_wp2_with fail
        go_ret2
        exact ⟨by rw [HE.out]; rfl, bW⟩
      have q1 : decide ((64 : Int) < (kk.length : Int)) = false := decide_eq_false (by omega)
      by_cases hl2 : 100 < vv.length
      · have HE := hid (HY.out (by simp [M.longE, hl2]))
        have q2 : decide ((100 : Int) < (vv.length : Int)) = true := decide_eq_true (by omega)
        clear HY HN
        go_wp2_with fail
        go_ret2
        exact ⟨by rw [HE.out]; rfl, bW⟩
      have q2 : decide ((100 : Int) < (vv.length : Int)) = false := decide_eq_false (by omega)
      have HF := hid (HN.out (by simp [M.longE]; omega))
      clear HY HN
      go_wp2_with fail
      go_roundw
      case rel => exact ⟨k + 1, by omega, by go_num, HF.out, trivial⟩
      case measure => simp [intOf]; omega
    · have HB : Hid (M.inB ⟨lsn, kind, level, right, high, es⟩ = true) := HI.out.2 ⟨HHD.out, by
        have := HNo.out
        rw [List.take_of_length_le (by omega)] at this
        exact this⟩
      clear HNo
      go_wp2_with fail
      refine (HFr _ HV.out).mono ?_
      rintro e w1 ⟨rfl, b1⟩
      by_cases hf : M.free ⟨lsn, kind, level, right, high, es⟩ < 0
      · have HE : Hid (M.encode ⟨lsn, kind, level, right, high, es⟩ = ([], 8)) := by show _ = _; unfold M.encode; rw [if_pos HB.out, if_pos hf]
        have q3 : decide (M.free ⟨lsn, kind, level, right, high, es⟩ < 0) = true := decide_eq_true hf
        go_wp2_with fail
        go_ret2
        exact ⟨by rw [HE.out]; rfl, bW.tr b1⟩
      have q3 : decide (M.free ⟨lsn, kind, level, right, high, es⟩ < 0) = false := decide_eq_false hf
      have hf' : 0 ≤ M.free ⟨lsn, kind, level, right, high, es⟩ := by omega
      have HE : Hid (M.encode ⟨lsn, kind, level, right, high, es⟩ = (M.sealL (M.put lsn 6 ++ M.body ⟨lsn, kind, level, right, high, es⟩ ++ M.put lsn 6), 0)) := by
        show _ = _
        unfold M.encode
        rw [if_pos HB.out, if_neg hf]
        unfold M.build
        rw [if_pos ⟨by rw [M.btw_iff]; exact ⟨h1, by show lsn ≤ _; omega⟩, M.body_length HB.out hf'⟩]
      have HPL := hid (M.pre_length HB.out hf')
      have HE6 := hid (M.inB_parts HB.out).2.2.2.2.2
      have hp6 := M.put_6 lsn (by omega) (by omega)
      have hes : es.length ≤ 163 := M.es_count hf'
      obtain ⟨HD, hHD⟩ : ∃ HD, HD = strOfNums [kind, level, right / 256, right % 256, (high.length : Int), (es.length : Int) / 256, (es.length : Int) % 256] := ⟨_, rfl⟩
      have HHD2 := hid hHD
      have HRH := hid (rhead_bytes ⟨lsn, kind, level, right, high, es⟩ HHD.out (by simp only; omega))
      have zHD : HD.size = 7 := by rw [hHD]; rfl
      have z6 : (M.bs (M.put lsn 6)).size = 6 := by rw [M.bs_size, hp6]
      have z7 : (M.bs (M.put lsn 6) ++ HD).size = 13 := by rw [ByteArray.size_append, z6, zHD]
      have HSTART : Hid (M.bs (M.put lsn 6) ++ HD ++ M.bs high = M.bs (M.put lsn 6 ++ M.head1 ⟨lsn, kind, level, right, high, es⟩ ++ M.head2 ⟨lsn, kind, level, right, high, es⟩)) := by
        show _ = _
        rw [hHD, HRH.out, M.bs_append, M.bs_append]
        congr 1
        unfold M.head1 M.head2
        simp only [List.append_assoc]
      have HLAST : Hid (M.put lsn 6 ++ M.pre ⟨lsn, kind, level, right, high, es⟩ ++ List.replicate (496 - (M.pre ⟨lsn, kind, level, right, high, es⟩).length) 0 = M.put lsn 6 ++ M.body ⟨lsn, kind, level, right, high, es⟩) := by
        show _ = _; unfold M.body; rw [List.append_assoc]
      have HPRE : Hid (M.put lsn 6 ++ M.head1 ⟨lsn, kind, level, right, high, es⟩ ++ M.head2 ⟨lsn, kind, level, right, high, es⟩ ++ es.flatMap M.encE = M.put lsn 6 ++ M.pre ⟨lsn, kind, level, right, high, es⟩) := by
        show _ = _; unfold M.pre; simp only [List.append_assoc]
      have HQL : Hid ((M.put lsn 6 ++ M.head1 ⟨lsn, kind, level, right, high, es⟩ ++ M.head2 ⟨lsn, kind, level, right, high, es⟩).length ≤ 200) := by
        have := M.head_length HB.out hf'
        show _ ≤ _
        simp only [List.length_append, hp6, this.1, this.2]; omega
      have HSL := fun W => rseal_any (M.put lsn 6 ++ M.body ⟨lsn, kind, level, right, high, es⟩ ++ M.put lsn 6) W (by simp only [List.length_append, hp6, M.body_length HB.out hf']; omega)
      rw [← HLAST.out, ← M.bs_append] at HSL
      have hpl := HPL.out.2
      generalize M.pre ⟨lsn, kind, level, right, high, es⟩ = PRE at *
      obtain ⟨Q0, hQ0⟩ : ∃ Q0, Q0 = M.put lsn 6 ++ M.head1 ⟨lsn, kind, level, right, high, es⟩ ++ M.head2 ⟨lsn, kind, level, right, high, es⟩ := ⟨_, rfl⟩
      rw [← hQ0] at HSTART HPRE HQL
      clear hQ0 HRH HPL HHD HI
      obtain ⟨y0, y1, y2, y3, y4, y5⟩ := (g0.bel b1).cells
      have gb1 := hid (g0.bel b1)
      have HP6 := fun W => rput_any lsn 6 W (by omega)
      have hb0 : Bel w1.drew w1.drew := Below.refl _ _
      have HC : ∀ W, Bel w1.drew W → W.cell? ⟨w.heap.size, 0, none⟩ = some (.int .i64 lsn) ∧ W.cell? ⟨w.heap.size, 1, none⟩ = some (.int .i64 kind) ∧ W.cell? ⟨w.heap.size, 2, none⟩ = some (.int .i64 level) ∧ W.cell? ⟨w.heap.size, 3, none⟩ = some (.int .i64 right) ∧ W.cell? ⟨w.heap.size, 4, none⟩ = some (.string (M.bs high)) ∧ W.cell? ⟨w.heap.size, 5, none⟩ = some (.slice a es.length cap) :=
        fun W hW => cells6_of ((hW.block _ gb1.out.lt).trans gb1.out)
      have hS := HC _ hb0
      have wr1 : IntKind.u8.wrap kind = kind := by rw [IntKind.wrap_u8]; omega
      have wr2 : IntKind.u8.wrap level = level := by rw [IntKind.wrap_u8]; omega
      have wr3 : IntKind.i64.wrap (right.tdiv 256) = right / 256 := by rw [Int.tdiv_eq_ediv_of_nonneg (by omega), IntKind.wrap_i64]; omega
      have wr4 : IntKind.u8.wrap (right / 256) = right / 256 := by rw [IntKind.wrap_u8]; omega
      have wr5 : IntKind.u8.wrap right = right % 256 := by rw [IntKind.wrap_u8]
      have wr6 : IntKind.u8.wrap (high.length : Int) = (high.length : Int) := by rw [IntKind.wrap_u8]; omega
      have wr7 : IntKind.i64.wrap ((es.length : Int) / 256) = (es.length : Int) / 256 := by rw [IntKind.wrap_i64]; omega
      have wr8 : IntKind.u8.wrap ((es.length : Int) / 256) = (es.length : Int) / 256 := by rw [IntKind.wrap_u8]; omega
      have wr9 : IntKind.u8.wrap (es.length : Int) = (es.length : Int) % 256 := by rw [IntKind.wrap_u8]
      have k7 := fun W => conv7n W kind level (right / 256) (right % 256) (high.length : Int) ((es.length : Int) / 256) ((es.length : Int) % 256)
      rw [← hHD] at k7
      clear hHD
      obtain ⟨P6, hP6⟩ : ∃ P6, P6 = M.bs (M.put lsn 6) := ⟨_, rfl⟩
      rw [← hP6] at z6 z7 HSTART HP6 HSL
      have HHP6 := hid hP6
      have zlim : (9223372036854775807 < 13 + high.length) = False := by simp; omega
      clear hP6
      go_wp2_with fail
      refine wp_normal ?_
      refine region_until (S := (fun W : World => W.cell? ⟨w.heap.size, 0, none⟩ = some (.int .i64 lsn) ∧ W.cell? ⟨w.heap.size, 1, none⟩ = some (.int .i64 kind) ∧ W.cell? ⟨w.heap.size, 2, none⟩ = some (.int .i64 level) ∧ W.cell? ⟨w.heap.size, 3, none⟩ = some (.int .i64 right) ∧ W.cell? ⟨w.heap.size, 4, none⟩ = some (.string (M.bs high)) ∧ W.cell? ⟨w.heap.size, 5, none⟩ = some (.slice a es.length cap))) (m := 35) (by kernel_rfl) ?_
      refine take_next (i := 0) (.pointer (some ⟨w.heap.size, 0, none⟩)) [1, 2, 31, 34, 35] (by kernel_rfl) (by kernel_rfl) rfl (by kernel_rfl) (by kernel_rfl) (by kernel_rfl) (by kernel_rfl) (fun _ _ _ h => absurd h.1 (by simp)) (Or.inl ⟨by rfl, fun w' hSw => by obtain ⟨h1, h2, h3, h4, h5, h6⟩ := hSw; go_simp⟩) hS ?_
      simp only [Act.put]
      refine take_next (i := 1) (.int .i64 lsn) [2, 31, 34, 35] (by kernel_rfl) (by kernel_rfl) rfl (by kernel_rfl) (by kernel_rfl) (by kernel_rfl) (by kernel_rfl) (fun _ _ _ h => absurd h.1 (by simp)) (Or.inl ⟨by rfl, fun w' hSw => by obtain ⟨h1, h2, h3, h4, h5, h6⟩ := hSw; go_simp⟩) hS ?_
      simp only [Act.put]
      refine take_next (i := 3) (.pointer (some ⟨w.heap.size, 1, none⟩)) [4, 5, 29, 30, 31, 34, 35] (by kernel_rfl) (by kernel_rfl) rfl (by kernel_rfl) (by kernel_rfl) (by kernel_rfl) (by kernel_rfl) (fun _ _ _ h => absurd h.1 (by simp)) (Or.inl ⟨by rfl, fun w' hSw => by obtain ⟨h1, h2, h3, h4, h5, h6⟩ := hSw; go_simp⟩) hS ?_
      simp only [Act.put]
      refine take_next (i := 4) (.int .i64 kind) [5, 29, 30, 31, 34, 35] (by kernel_rfl) (by kernel_rfl) rfl (by kernel_rfl) (by kernel_rfl) (by kernel_rfl) (by kernel_rfl) (fun _ _ _ h => absurd h.1 (by simp)) (Or.inl ⟨by rfl, fun w' hSw => by obtain ⟨h1, h2, h3, h4, h5, h6⟩ := hSw; go_simp⟩) hS ?_
      simp only [Act.put]
      refine take_next (i := 5) (.int .u8 kind) [29, 30, 31, 34, 35] (by kernel_rfl) (by kernel_rfl) rfl (by kernel_rfl) (by kernel_rfl) (by kernel_rfl) (by kernel_rfl) (fun _ _ _ h => absurd h.1 (by simp)) (Or.inl ⟨by rfl, fun w' hSw => by obtain ⟨h1, h2, h3, h4, h5, h6⟩ := hSw; go_simp⟩) hS ?_
      simp only [Act.put]
      refine take_next (i := 6) (.pointer (some ⟨w.heap.size, 2, none⟩)) [7, 8, 29, 30, 31, 34, 35] (by kernel_rfl) (by kernel_rfl) rfl (by kernel_rfl) (by kernel_rfl) (by kernel_rfl) (by kernel_rfl) (fun _ _ _ h => absurd h.1 (by simp)) (Or.inl ⟨by rfl, fun w' hSw => by obtain ⟨h1, h2, h3, h4, h5, h6⟩ := hSw; go_simp⟩) hS ?_
      simp only [Act.put]
      refine take_next (i := 7) (.int .i64 level) [8, 29, 30, 31, 34, 35] (by kernel_rfl) (by kernel_rfl) rfl (by kernel_rfl) (by kernel_rfl) (by kernel_rfl) (by kernel_rfl) (fun _ _ _ h => absurd h.1 (by simp)) (Or.inl ⟨by rfl, fun w' hSw => by obtain ⟨h1, h2, h3, h4, h5, h6⟩ := hSw; go_simp⟩) hS ?_
      simp only [Act.put]
      refine take_next (i := 8) (.int .u8 level) [29, 30, 31, 34, 35] (by kernel_rfl) (by kernel_rfl) rfl (by kernel_rfl) (by kernel_rfl) (by kernel_rfl) (by kernel_rfl) (fun _ _ _ h => absurd h.1 (by simp)) (Or.inl ⟨by rfl, fun w' hSw => by obtain ⟨h1, h2, h3, h4, h5, h6⟩ := hSw; go_simp⟩) hS ?_
      simp only [Act.put]
      refine take_next (i := 9) (.pointer (some ⟨w.heap.size, 3, none⟩)) [10, 11, 12, 29, 30, 31, 34, 35] (by kernel_rfl) (by kernel_rfl) rfl (by kernel_rfl) (by kernel_rfl) (by kernel_rfl) (by kernel_rfl) (fun _ _ _ h => absurd h.1 (by simp)) (Or.inl ⟨by rfl, fun w' hSw => by obtain ⟨h1, h2, h3, h4, h5, h6⟩ := hSw; go_simp⟩) hS ?_
      simp only [Act.put]
      refine take_next (i := 10) (.int .i64 right) [11, 12, 29, 30, 31, 34, 35] (by kernel_rfl) (by kernel_rfl) rfl (by kernel_rfl) (by kernel_rfl) (by kernel_rfl) (by kernel_rfl) (fun _ _ _ h => absurd h.1 (by simp)) (Or.inl ⟨by rfl, fun w' hSw => by obtain ⟨h1, h2, h3, h4, h5, h6⟩ := hSw; go_simp⟩) hS ?_
      simp only [Act.put]
      refine take_next (i := 11) (.int .i64 (right / 256)) [12, 29, 30, 31, 34, 35] (by kernel_rfl) (by kernel_rfl) rfl (by kernel_rfl) (by kernel_rfl) (by kernel_rfl) (by kernel_rfl) (fun _ _ _ h => absurd h.1 (by simp)) (Or.inl ⟨by rfl, fun w' hSw => by obtain ⟨h1, h2, h3, h4, h5, h6⟩ := hSw; go_simp⟩) hS ?_
      simp only [Act.put]
      refine take_next (i := 12) (.int .u8 (right / 256)) [29, 30, 31, 34, 35] (by kernel_rfl) (by kernel_rfl) rfl (by kernel_rfl) (by kernel_rfl) (by kernel_rfl) (by kernel_rfl) (fun _ _ _ h => absurd h.1 (by simp)) (Or.inl ⟨by rfl, fun w' hSw => by obtain ⟨h1, h2, h3, h4, h5, h6⟩ := hSw; go_simp⟩) hS ?_
      simp only [Act.put]
      refine take_next (i := 13) (.pointer (some ⟨w.heap.size, 3, none⟩)) [14, 15, 29, 30, 31, 34, 35] (by kernel_rfl) (by kernel_rfl) rfl (by kernel_rfl) (by kernel_rfl) (by kernel_rfl) (by kernel_rfl) (fun _ _ _ h => absurd h.1 (by simp)) (Or.inl ⟨by rfl, fun w' hSw => by obtain ⟨h1, h2, h3, h4, h5, h6⟩ := hSw; go_simp⟩) hS ?_
      simp only [Act.put]
      refine take_next (i := 14) (.int .i64 right) [15, 29, 30, 31, 34, 35] (by kernel_rfl) (by kernel_rfl) rfl (by kernel_rfl) (by kernel_rfl) (by kernel_rfl) (by kernel_rfl) (fun _ _ _ h => absurd h.1 (by simp)) (Or.inl ⟨by rfl, fun w' hSw => by obtain ⟨h1, h2, h3, h4, h5, h6⟩ := hSw; go_simp⟩) hS ?_
      simp only [Act.put]
      refine take_next (i := 15) (.int .u8 (right % 256)) [29, 30, 31, 34, 35] (by kernel_rfl) (by kernel_rfl) rfl (by kernel_rfl) (by kernel_rfl) (by kernel_rfl) (by kernel_rfl) (fun _ _ _ h => absurd h.1 (by simp)) (Or.inl ⟨by rfl, fun w' hSw => by obtain ⟨h1, h2, h3, h4, h5, h6⟩ := hSw; go_simp⟩) hS ?_
      simp only [Act.put]
      refine take_next (i := 16) (.pointer (some ⟨w.heap.size, 4, none⟩)) [17, 18, 19, 29, 30, 31, 34, 35] (by kernel_rfl) (by kernel_rfl) rfl (by kernel_rfl) (by kernel_rfl) (by kernel_rfl) (by kernel_rfl) (fun _ _ _ h => absurd h.1 (by simp)) (Or.inl ⟨by rfl, fun w' hSw => by obtain ⟨h1, h2, h3, h4, h5, h6⟩ := hSw; go_simp⟩) hS ?_
      simp only [Act.put]
      refine take_next (i := 17) (.string (M.bs high)) [18, 19, 29, 30, 31, 34, 35] (by kernel_rfl) (by kernel_rfl) rfl (by kernel_rfl) (by kernel_rfl) (by kernel_rfl) (by kernel_rfl) (fun _ _ _ h => absurd h.1 (by simp)) (Or.inl ⟨by rfl, fun w' hSw => by obtain ⟨h1, h2, h3, h4, h5, h6⟩ := hSw; go_simp⟩) hS ?_
      simp only [Act.put]
      refine take_next (i := 18) (.int .i64 (high.length : Int)) [19, 29, 30, 31, 34, 35] (by kernel_rfl) (by kernel_rfl) rfl (by kernel_rfl) (by kernel_rfl) (by kernel_rfl) (by kernel_rfl) (fun _ _ _ h => absurd h.1 (by simp)) (Or.inl ⟨by rfl, fun w' hSw => by obtain ⟨h1, h2, h3, h4, h5, h6⟩ := hSw; go_simp⟩) hS ?_
      simp only [Act.put]
      refine take_next (i := 19) (.int .u8 (high.length : Int)) [29, 30, 31, 34, 35] (by kernel_rfl) (by kernel_rfl) rfl (by kernel_rfl) (by kernel_rfl) (by kernel_rfl) (by kernel_rfl) (fun _ _ _ h => absurd h.1 (by simp)) (Or.inl ⟨by rfl, fun w' hSw => by obtain ⟨h1, h2, h3, h4, h5, h6⟩ := hSw; go_simp⟩) hS ?_
      simp only [Act.put]
      refine take_next (i := 20) (.pointer (some ⟨w.heap.size, 5, none⟩)) [21, 22, 23, 24, 29, 30, 31, 34, 35] (by kernel_rfl) (by kernel_rfl) rfl (by kernel_rfl) (by kernel_rfl) (by kernel_rfl) (by kernel_rfl) (fun _ _ _ h => absurd h.1 (by simp)) (Or.inl ⟨by rfl, fun w' hSw => by obtain ⟨h1, h2, h3, h4, h5, h6⟩ := hSw; go_simp⟩) hS ?_
      simp only [Act.put]
      refine take_next (i := 21) (.slice a es.length cap) [22, 23, 24, 29, 30, 31, 34, 35] (by kernel_rfl) (by kernel_rfl) rfl (by kernel_rfl) (by kernel_rfl) (by kernel_rfl) (by kernel_rfl) (fun _ _ _ h => absurd h.1 (by simp)) (Or.inl ⟨by rfl, fun w' hSw => by obtain ⟨h1, h2, h3, h4, h5, h6⟩ := hSw; go_simp⟩) hS ?_
      simp only [Act.put]
      refine take_next (i := 22) (.int .i64 (es.length : Int)) [23, 24, 29, 30, 31, 34, 35] (by kernel_rfl) (by kernel_rfl) rfl (by kernel_rfl) (by kernel_rfl) (by kernel_rfl) (by kernel_rfl) (fun _ _ _ h => absurd h.1 (by simp)) (Or.inl ⟨by rfl, fun w' hSw => by obtain ⟨h1, h2, h3, h4, h5, h6⟩ := hSw; go_simp⟩) hS ?_
      simp only [Act.put]
      refine take_next (i := 23) (.int .i64 ((es.length : Int) / 256)) [24, 29, 30, 31, 34, 35] (by kernel_rfl) (by kernel_rfl) rfl (by kernel_rfl) (by kernel_rfl) (by kernel_rfl) (by kernel_rfl) (fun _ _ _ h => absurd h.1 (by simp)) (Or.inl ⟨by rfl, fun w' hSw => by obtain ⟨h1, h2, h3, h4, h5, h6⟩ := hSw; go_simp⟩) hS ?_
      simp only [Act.put]
      refine take_next (i := 24) (.int .u8 ((es.length : Int) / 256)) [29, 30, 31, 34, 35] (by kernel_rfl) (by kernel_rfl) rfl (by kernel_rfl) (by kernel_rfl) (by kernel_rfl) (by kernel_rfl) (fun _ _ _ h => absurd h.1 (by simp)) (Or.inl ⟨by rfl, fun w' hSw => by obtain ⟨h1, h2, h3, h4, h5, h6⟩ := hSw; go_simp⟩) hS ?_
      simp only [Act.put]
      refine take_next (i := 25) (.pointer (some ⟨w.heap.size, 5, none⟩)) [26, 27, 28, 29, 30, 31, 34, 35] (by kernel_rfl) (by kernel_rfl) rfl (by kernel_rfl) (by kernel_rfl) (by kernel_rfl) (by kernel_rfl) (fun _ _ _ h => absurd h.1 (by simp)) (Or.inl ⟨by rfl, fun w' hSw => by obtain ⟨h1, h2, h3, h4, h5, h6⟩ := hSw; go_simp⟩) hS ?_
      simp only [Act.put]
      refine take_next (i := 26) (.slice a es.length cap) [27, 28, 29, 30, 31, 34, 35] (by kernel_rfl) (by kernel_rfl) rfl (by kernel_rfl) (by kernel_rfl) (by kernel_rfl) (by kernel_rfl) (fun _ _ _ h => absurd h.1 (by simp)) (Or.inl ⟨by rfl, fun w' hSw => by obtain ⟨h1, h2, h3, h4, h5, h6⟩ := hSw; go_simp⟩) hS ?_
      simp only [Act.put]
      refine take_next (i := 27) (.int .i64 (es.length : Int)) [28, 29, 30, 31, 34, 35] (by kernel_rfl) (by kernel_rfl) rfl (by kernel_rfl) (by kernel_rfl) (by kernel_rfl) (by kernel_rfl) (fun _ _ _ h => absurd h.1 (by simp)) (Or.inl ⟨by rfl, fun w' hSw => by obtain ⟨h1, h2, h3, h4, h5, h6⟩ := hSw; go_simp⟩) hS ?_
      simp only [Act.put]
      refine take_next (i := 28) (.int .u8 ((es.length : Int) % 256)) [29, 30, 31, 34, 35] (by kernel_rfl) (by kernel_rfl) rfl (by kernel_rfl) (by kernel_rfl) (by kernel_rfl) (by kernel_rfl) (fun _ _ _ h => absurd h.1 (by simp)) (Or.inl ⟨by rfl, fun w' hSw => by obtain ⟨h1, h2, h3, h4, h5, h6⟩ := hSw; go_simp⟩) hS ?_
      simp only [Act.put]
      refine take_next (i := 32) (.pointer (some ⟨w.heap.size, 4, none⟩)) [33, 34, 35] (by kernel_rfl) (by kernel_rfl) rfl (by kernel_rfl) (by kernel_rfl) (by kernel_rfl) (by kernel_rfl) (fun _ _ _ h => absurd h.1 (by simp)) (Or.inl ⟨by rfl, fun w' hSw => by obtain ⟨h1, h2, h3, h4, h5, h6⟩ := hSw; go_simp⟩) hS ?_
      simp only [Act.put]
      refine take_next (i := 33) (.string (M.bs high)) [34, 35] (by kernel_rfl) (by kernel_rfl) rfl (by kernel_rfl) (by kernel_rfl) (by kernel_rfl) (by kernel_rfl) (fun _ _ _ h => absurd h.1 (by simp)) (Or.inl ⟨by rfl, fun w' hSw => by obtain ⟨h1, h2, h3, h4, h5, h6⟩ := hSw; go_simp⟩) hS ?_
      simp only [Act.put]
      refine until_ready (rs := [2, 29]) (by kernel_rfl) (by simp) ?_
      intro jj hjj
      simp only [List.mem_cons, List.not_mem_nil, or_false] at hjj
      rcases hjj with rfl | rfl
      · skip
        refine wpOp_step rfl (fun KX hKX => ?_)
        have HX := hid hKX
        clear hKX
        refine stepP (by simp [Region.wanted]) 82 (.int .i64 6) (by rfl) (.int .i64 lsn) (by simp [Act.eval]) (HP6 _) ?_
        rintro e w4 ⟨rfl, b4⟩
        refine ⟨_, rfl, ?_⟩
        refine HX.out _ _ ⟨fun _ => HC _ b4, ?_⟩
        clear HX
        simp only [Act.put]
        refine until_ready (rs := [29]) (by kernel_rfl) (by simp) ?_
        intro jj hjj
        simp only [List.mem_cons, List.not_mem_nil, or_false] at hjj
        subst hjj
        refine wpOp_step rfl (fun KX hKX => ?_)
        have HX := hid hKX
        clear hKX
        go_simp
        refine HX.out _ _ ⟨fun _ => HC _ (b4.al _), ?_⟩
        clear HX
        refine until_ready (rs := [30]) (by kernel_rfl) (by simp) ?_
        intro jj hjj
        simp only [List.mem_cons, List.not_mem_nil, or_false] at hjj
        subst hjj
        refine wpOp_step rfl (fun KX hKX => ?_)
        have HX := hid hKX
        clear hKX
        go_simp
        refine HX.out _ _ ⟨fun _ => HC _ (b4.al _), ?_⟩
        clear HX
        refine until_ready (rs := [31]) (by kernel_rfl) (by simp) ?_
        intro jj hjj
        simp only [List.mem_cons, List.not_mem_nil, or_false] at hjj
        subst hjj
        refine wpOp_step rfl (fun KX hKX => ?_)
        have HX := hid hKX
        clear hKX
        go_simp
        refine HX.out _ _ ⟨fun _ => HC _ (b4.al _), ?_⟩
        clear HX
        refine until_ready (rs := [34]) (by kernel_rfl) (by simp) ?_
        intro jj hjj
        simp only [List.mem_cons, List.not_mem_nil, or_false] at hjj
        subst hjj
        refine wpOp_step rfl (fun KX hKX => ?_)
        have HX := hid hKX
        clear hKX
        go_simp
        refine HX.out _ _ ⟨fun _ => HC _ (b4.al _), ?_⟩
        clear HX
        refine until_ready (rs := [35]) (by kernel_rfl) (by simp) ?_
        intro jj hjj
        simp only [List.mem_cons, List.not_mem_nil, or_false] at hjj
        subst hjj
        refine wpOp_step rfl (fun KX hKX => ?_)
        have HX := hid hKX
        clear hKX
        go_simp
        refine HX.out _ _ ⟨fun _ => HC _ (b4.al _), ?_⟩
        clear HX
        refine until_done (by kernel_rfl) ⟨rfl, ?_⟩ _
        clear k7 hS
        clear hb0
        clear wr1 wr2 wr3 wr4 wr5 wr6 wr7 wr8 wr9
        go_wp2_with fail
        go_loopw [5, 6] (fun s i wr => ∃ k : Nat, k ≤ es.length ∧ i = .int .i64 k ∧ s = .string (M.bs (Q0 ++ (es.take k).flatMap M.encE)) ∧ Bel W0 wr) (fun _ i _ => es.length - (intOf i).toNat)
        case atStart => exact ⟨0, Nat.zero_le _, rfl, by rw [HSTART.out]; simp, ((b1.dr).tr b4).al _⟩
        case round =>
          obtain ⟨k, hk, rfl, rfl, hb⟩ := hrel
          obtain ⟨W1, rfl⟩ : ∃ W1, W1 = wr := ⟨_, rfl⟩
          obtain ⟨x0, x1, x2, x3, x4, x5⟩ := (g0.bel hb).cells
          by_cases hlt : k < es.length
          · obtain ⟨bx, ox, rfl, hrx⟩ := (HV.out.bel hb).row (by omega)
            obtain ⟨c1, c2, c3⟩ := hrx k hlt
            have he := HE6.out es[k] (List.getElem_mem hlt)
            have HT : Hid (M.bs (Q0 ++ (es.take (k + 1)).flatMap M.encE) = M.bs (Q0 ++ (es.take k).flatMap M.encE) ++ M.bs (M.encE es[k])) := by
              show _ = _
              rw [List.take_succ_eq_append_getElem hlt, List.flatMap_append, M.bs_append, List.append_assoc]
              simp
            have hsz : (M.bs (Q0 ++ (es.take k).flatMap M.encE)).size ≤ 100000 := by
              have h1 := flat_le es k HE6.out
              have h2 := HQL.out
              rw [M.bs_size, List.length_append]; omega
            clear hrx
            generalize M.bs (Q0 ++ (es.take k).flatMap M.encE) = S at *
            generalize es[k] = v at *
            obtain ⟨kk, vv, mm⟩ := v
            simp only at he c1 c2 c3
            have zk : (M.bs kk).size = kk.length := M.bs_size kk
            have zv : (M.bs vv).size = vv.length := M.bs_size vv
            obtain ⟨E3, hE3⟩ : ∃ E3, E3 = strOfNums [(M.markN mm : Int), (kk.length : Int), (vv.length : Int)] := ⟨_, rfl⟩
            have z3 : E3.size = 3 := by rw [hE3]; rfl
            have z4 : (E3 ++ M.bs kk).size = 3 + kk.length := by rw [ByteArray.size_append, z3, zk]
            have z5 : (E3 ++ M.bs kk ++ M.bs vv).size = 3 + kk.length + vv.length := by rw [ByteArray.size_append, z4, zv]
            have HTE : Hid (E3 ++ M.bs kk ++ M.bs vv = M.bs (M.encE (kk, vv, mm))) := by
              show _ = _
              have := rent_bytes kk vv mm he.1 he.2
              rw [hE3, M.nums_bs]
              simp only [List.map_cons, List.map_nil, Int.toNat_natCast]
              rw [this, M.bs_append, M.bs_append]
              congr 1
              unfold M.encE
              simp only [List.append_assoc]
            have k3 := conv3n (W1.alloc (.cells #[.string (M.bs kk), .string (M.bs vv), .bool mm] 88)) (M.markN mm : Int) (kk.length : Int) (vv.length : Int)
            rw [← hE3, show (W1.alloc (.cells #[.string (M.bs kk), .string (M.bs vv), .bool mm] 88)).heap.size = W1.heap.size + 1 by simp] at k3
            clear hE3
            cases mm
            all_goals
              simp only [M.markN, if_true, Bool.false_eq_true, if_false, Int.natCast_zero, Int.natCast_one] at k3
              go_wp2_with fail
              go_roundw
              case rel => exact ⟨k + 1, by omega, by go_num, by rw [HT.out, ← HTE.out], (hb.al _).al _⟩
              case measure => simp [intOf]; omega
          · have HT : Hid (M.bs (Q0 ++ (es.take k).flatMap M.encE) = M.bs (M.put lsn 6 ++ PRE)) := by
              show _ = _; rw [List.take_of_length_le (by omega), HPRE.out]
            rw [HT.out]
            go_wp2_with fail
            go_loopw [5] (fun s wr => ∃ j : Nat, j ≤ 496 - PRE.length ∧ s = .string (M.bs (M.put lsn 6 ++ PRE ++ List.replicate j 0)) ∧ W1 = wr) (fun s _ => 502 - lenOf s)
            case atStart => exact ⟨0, Nat.zero_le _, by simp, rfl⟩
            case round =>
              obtain ⟨j, hj, rfl, rfl⟩ := hrel
              have hsz : (M.bs (M.put lsn 6 ++ PRE ++ List.replicate j 0)).size = 6 + PRE.length + j := by
                rw [M.bs_size, List.length_append, List.length_append, List.length_replicate, hp6]
              have HS : Hid (M.bs (M.put lsn 6 ++ PRE ++ List.replicate j 0) ++ ⟨#[0]⟩ = M.bs (M.put lsn 6 ++ PRE ++ List.replicate (j + 1) 0)) := by
                show _ ++ M.bs [0] = _
                rw [M.bs_append, List.append_assoc (M.put lsn 6 ++ PRE), ← List.replicate_succ']
              have HR : Hid (j = 496 - PRE.length → M.bs (M.put lsn 6 ++ PRE ++ List.replicate (496 - PRE.length) 0) = M.bs (M.put lsn 6 ++ PRE ++ List.replicate j 0)) := fun h => by rw [h]
              by_cases hlt2 : j < 496 - PRE.length
              · generalize M.bs (M.put lsn 6 ++ PRE ++ List.replicate j 0) = S at *
                have hz1 : (ByteArray.mk #[0]).size = 1 := rfl
                go_wp2_with fail
                go_roundw
                case rel => exact ⟨j + 1, by omega, by rw [HS.out], trivial⟩
                case measure => simp [lenOf, ByteArray.size_append, hz1]; omega
              · have HR := HR.out (by omega)
                rw [HR] at HSL
                clear HR HS
                generalize M.bs (M.put lsn 6 ++ PRE ++ List.replicate j 0) = S at *
                go_wp2_with fail
                refine (HP6 _).mono ?_
                rintro e w5 ⟨rfl, b5⟩
                go_wp2_with fail
                refine (HSL _).mono ?_
                rintro e w6 ⟨rfl, b6⟩
                go_wp2_with fail
                go_ret2
                exact ⟨by rw [HE.out, ← HLAST.out]; simp only [List.append_assoc]; rfl, ((bW.tr hb).tr b5).tr b6⟩
      · skip
        refine wpOp_step rfl (fun KX hKX => ?_)
        have HX := hid hKX
        clear hKX
        go_simp
        refine HX.out _ _ ⟨fun _ => HC _ (hb0.al _), ?_⟩
        clear HX
        refine until_ready (rs := [2, 30]) (by kernel_rfl) (by simp) ?_
        intro jj hjj
        simp only [List.mem_cons, List.not_mem_nil, or_false] at hjj
        rcases hjj with rfl | rfl
        · skip
          refine wpOp_step rfl (fun KX hKX => ?_)
          have HX := hid hKX
          clear hKX
          refine stepP (by simp [Region.wanted]) 82 (.int .i64 6) (by rfl) (.int .i64 lsn) (by simp [Act.eval]) (HP6 _) ?_
          rintro e w4 ⟨rfl, b4⟩
          refine ⟨_, rfl, ?_⟩
          refine HX.out _ _ ⟨fun _ => HC _ ((hb0.al _).tr b4), ?_⟩
          clear HX
          simp only [Act.put]
          have k8 : (convert 54 9 (.slice (some ⟨w1.heap.size, 0, none⟩) 7 7)).run Tryd.prog w4 = .ok (.string HD) w4 := by rw [HHD2.out]; exact conv7h ((b4.block w1.heap.size (by simp)).trans (heap_alloc_new _ _))
          refine until_ready (rs := [30]) (by kernel_rfl) (by simp) ?_
          intro jj hjj
          simp only [List.mem_cons, List.not_mem_nil, or_false] at hjj
          subst hjj
          refine wpOp_step rfl (fun KX hKX => ?_)
          have HX := hid hKX
          clear hKX
          go_simp
          refine HX.out _ _ ⟨fun _ => HC _ ((hb0.al _).tr b4), ?_⟩
          clear HX
          refine until_ready (rs := [31]) (by kernel_rfl) (by simp) ?_
          intro jj hjj
          simp only [List.mem_cons, List.not_mem_nil, or_false] at hjj
          subst hjj
          refine wpOp_step rfl (fun KX hKX => ?_)
          have HX := hid hKX
          clear hKX
          go_simp
          refine HX.out _ _ ⟨fun _ => HC _ ((hb0.al _).tr b4), ?_⟩
          clear HX
          refine until_ready (rs := [34]) (by kernel_rfl) (by simp) ?_
          intro jj hjj
          simp only [List.mem_cons, List.not_mem_nil, or_false] at hjj
          subst hjj
          refine wpOp_step rfl (fun KX hKX => ?_)
          have HX := hid hKX
          clear hKX
          go_simp
          refine HX.out _ _ ⟨fun _ => HC _ ((hb0.al _).tr b4), ?_⟩
          clear HX
          refine until_ready (rs := [35]) (by kernel_rfl) (by simp) ?_
          intro jj hjj
          simp only [List.mem_cons, List.not_mem_nil, or_false] at hjj
          subst hjj
          refine wpOp_step rfl (fun KX hKX => ?_)
          have HX := hid hKX
          clear hKX
          go_simp
          refine HX.out _ _ ⟨fun _ => HC _ ((hb0.al _).tr b4), ?_⟩
          clear HX
          refine until_done (by kernel_rfl) ⟨rfl, ?_⟩ _
          clear k7 hS
          clear hb0
          clear wr1 wr2 wr3 wr4 wr5 wr6 wr7 wr8 wr9
          go_wp2_with fail
          go_loopw [5, 6] (fun s i wr => ∃ k : Nat, k ≤ es.length ∧ i = .int .i64 k ∧ s = .string (M.bs (Q0 ++ (es.take k).flatMap M.encE)) ∧ Bel W0 wr) (fun _ i _ => es.length - (intOf i).toNat)
          case atStart => exact ⟨0, Nat.zero_le _, rfl, by rw [HSTART.out]; simp, ((b1.dr).al _).tr b4⟩
          case round =>
            obtain ⟨k, hk, rfl, rfl, hb⟩ := hrel
            obtain ⟨W1, rfl⟩ : ∃ W1, W1 = wr := ⟨_, rfl⟩
            obtain ⟨x0, x1, x2, x3, x4, x5⟩ := (g0.bel hb).cells
            by_cases hlt : k < es.length
            · obtain ⟨bx, ox, rfl, hrx⟩ := (HV.out.bel hb).row (by omega)
              obtain ⟨c1, c2, c3⟩ := hrx k hlt
              have he := HE6.out es[k] (List.getElem_mem hlt)
              have HT : Hid (M.bs (Q0 ++ (es.take (k + 1)).flatMap M.encE) = M.bs (Q0 ++ (es.take k).flatMap M.encE) ++ M.bs (M.encE es[k])) := by
                show _ = _
                rw [List.take_succ_eq_append_getElem hlt, List.flatMap_append, M.bs_append, List.append_assoc]
                simp
              have hsz : (M.bs (Q0 ++ (es.take k).flatMap M.encE)).size ≤ 100000 := by
                have h1 := flat_le es k HE6.out
                have h2 := HQL.out
                rw [M.bs_size, List.length_append]; omega
              clear hrx
              generalize M.bs (Q0 ++ (es.take k).flatMap M.encE) = S at *
              generalize es[k] = v at *
              obtain ⟨kk, vv, mm⟩ := v
              simp only at he c1 c2 c3
              have zk : (M.bs kk).size = kk.length := M.bs_size kk
              have zv : (M.bs vv).size = vv.length := M.bs_size vv
              obtain ⟨E3, hE3⟩ : ∃ E3, E3 = strOfNums [(M.markN mm : Int), (kk.length : Int), (vv.length : Int)] := ⟨_, rfl⟩
              have z3 : E3.size = 3 := by rw [hE3]; rfl
              have z4 : (E3 ++ M.bs kk).size = 3 + kk.length := by rw [ByteArray.size_append, z3, zk]
              have z5 : (E3 ++ M.bs kk ++ M.bs vv).size = 3 + kk.length + vv.length := by rw [ByteArray.size_append, z4, zv]
              have HTE : Hid (E3 ++ M.bs kk ++ M.bs vv = M.bs (M.encE (kk, vv, mm))) := by
                show _ = _
                have := rent_bytes kk vv mm he.1 he.2
                rw [hE3, M.nums_bs]
                simp only [List.map_cons, List.map_nil, Int.toNat_natCast]
                rw [this, M.bs_append, M.bs_append]
                congr 1
                unfold M.encE
                simp only [List.append_assoc]
              have k3 := conv3n (W1.alloc (.cells #[.string (M.bs kk), .string (M.bs vv), .bool mm] 88)) (M.markN mm : Int) (kk.length : Int) (vv.length : Int)
              rw [← hE3, show (W1.alloc (.cells #[.string (M.bs kk), .string (M.bs vv), .bool mm] 88)).heap.size = W1.heap.size + 1 by simp] at k3
              clear hE3
              cases mm
              all_goals
                simp only [M.markN, if_true, Bool.false_eq_true, if_false, Int.natCast_zero, Int.natCast_one] at k3
                go_wp2_with fail
                go_roundw
                case rel => exact ⟨k + 1, by omega, by go_num, by rw [HT.out, ← HTE.out], (hb.al _).al _⟩
                case measure => simp [intOf]; omega
            · have HT : Hid (M.bs (Q0 ++ (es.take k).flatMap M.encE) = M.bs (M.put lsn 6 ++ PRE)) := by
                show _ = _; rw [List.take_of_length_le (by omega), HPRE.out]
              rw [HT.out]
              go_wp2_with fail
              go_loopw [5] (fun s wr => ∃ j : Nat, j ≤ 496 - PRE.length ∧ s = .string (M.bs (M.put lsn 6 ++ PRE ++ List.replicate j 0)) ∧ W1 = wr) (fun s _ => 502 - lenOf s)
              case atStart => exact ⟨0, Nat.zero_le _, by simp, rfl⟩
              case round =>
                obtain ⟨j, hj, rfl, rfl⟩ := hrel
                have hsz : (M.bs (M.put lsn 6 ++ PRE ++ List.replicate j 0)).size = 6 + PRE.length + j := by
                  rw [M.bs_size, List.length_append, List.length_append, List.length_replicate, hp6]
                have HS : Hid (M.bs (M.put lsn 6 ++ PRE ++ List.replicate j 0) ++ ⟨#[0]⟩ = M.bs (M.put lsn 6 ++ PRE ++ List.replicate (j + 1) 0)) := by
                  show _ ++ M.bs [0] = _
                  rw [M.bs_append, List.append_assoc (M.put lsn 6 ++ PRE), ← List.replicate_succ']
                have HR : Hid (j = 496 - PRE.length → M.bs (M.put lsn 6 ++ PRE ++ List.replicate (496 - PRE.length) 0) = M.bs (M.put lsn 6 ++ PRE ++ List.replicate j 0)) := fun h => by rw [h]
                by_cases hlt2 : j < 496 - PRE.length
                · generalize M.bs (M.put lsn 6 ++ PRE ++ List.replicate j 0) = S at *
                  have hz1 : (ByteArray.mk #[0]).size = 1 := rfl
                  go_wp2_with fail
                  go_roundw
                  case rel => exact ⟨j + 1, by omega, by rw [HS.out], trivial⟩
                  case measure => simp [lenOf, ByteArray.size_append, hz1]; omega
                · have HR := HR.out (by omega)
                  rw [HR] at HSL
                  clear HR HS
                  generalize M.bs (M.put lsn 6 ++ PRE ++ List.replicate j 0) = S at *
                  go_wp2_with fail
                  refine (HP6 _).mono ?_
                  rintro e w5 ⟨rfl, b5⟩
                  go_wp2_with fail
                  refine (HSL _).mono ?_
                  rintro e w6 ⟨rfl, b6⟩
                  go_wp2_with fail
                  go_ret2
                  exact ⟨by rw [HE.out, ← HLAST.out]; simp only [List.append_assoc]; rfl, ((bW.tr hb).tr b5).tr b6⟩
        · skip
          have k7d : (convert 54 9 (.slice (some ⟨w1.heap.size, 0, none⟩) 7 7)).run Tryd.prog (w1.alloc (.cells #[.int .u8 kind, .int .u8 level, .int .u8 (right / 256), .int .u8 (right % 256), .int .u8 (high.length : Int), .int .u8 ((es.length : Int) / 256), .int .u8 ((es.length : Int) % 256)] 5)).drew = .ok (.string HD) (w1.alloc (.cells #[.int .u8 kind, .int .u8 level, .int .u8 (right / 256), .int .u8 (right % 256), .int .u8 (high.length : Int), .int .u8 ((es.length : Int) / 256), .int .u8 ((es.length : Int) % 256)] 5)).drew := by rw [HHD2.out]; exact conv7h (heap_alloc_new w1 _)
          refine wpOp_step rfl (fun KX hKX => ?_)
          have HX := hid hKX
          clear hKX
          go_simp
          refine HX.out _ _ ⟨fun _ => HC _ (hb0.al _), ?_⟩
          clear HX
          refine until_ready (rs := [2]) (by kernel_rfl) (by simp) ?_
          intro jj hjj
          simp only [List.mem_cons, List.not_mem_nil, or_false] at hjj
          subst hjj
          refine wpOp_step rfl (fun KX hKX => ?_)
          have HX := hid hKX
          clear hKX
          refine stepP (by simp [Region.wanted]) 82 (.int .i64 6) (by rfl) (.int .i64 lsn) (by simp [Act.eval]) (HP6 _) ?_
          rintro e w4 ⟨rfl, b4⟩
          refine ⟨_, rfl, ?_⟩
          refine HX.out _ _ ⟨fun _ => HC _ ((hb0.al _).tr b4), ?_⟩
          clear HX
          simp only [Act.put]
          refine until_ready (rs := [31]) (by kernel_rfl) (by simp) ?_
          intro jj hjj
          simp only [List.mem_cons, List.not_mem_nil, or_false] at hjj
          subst hjj
          refine wpOp_step rfl (fun KX hKX => ?_)
          have HX := hid hKX
          clear hKX
          go_simp
          refine HX.out _ _ ⟨fun _ => HC _ ((hb0.al _).tr b4), ?_⟩
          clear HX
          refine until_ready (rs := [34]) (by kernel_rfl) (by simp) ?_
          intro jj hjj
          simp only [List.mem_cons, List.not_mem_nil, or_false] at hjj
          subst hjj
          refine wpOp_step rfl (fun KX hKX => ?_)
          have HX := hid hKX
          clear hKX
          go_simp
          refine HX.out _ _ ⟨fun _ => HC _ ((hb0.al _).tr b4), ?_⟩
          clear HX
          refine until_ready (rs := [35]) (by kernel_rfl) (by simp) ?_
          intro jj hjj
          simp only [List.mem_cons, List.not_mem_nil, or_false] at hjj
          subst hjj
          refine wpOp_step rfl (fun KX hKX => ?_)
          have HX := hid hKX
          clear hKX
          go_simp
          refine HX.out _ _ ⟨fun _ => HC _ ((hb0.al _).tr b4), ?_⟩
          clear HX
          refine until_done (by kernel_rfl) ⟨rfl, ?_⟩ _
          clear k7 hS
          clear hb0
          clear wr1 wr2 wr3 wr4 wr5 wr6 wr7 wr8 wr9
          go_wp2_with fail
          go_loopw [5, 6] (fun s i wr => ∃ k : Nat, k ≤ es.length ∧ i = .int .i64 k ∧ s = .string (M.bs (Q0 ++ (es.take k).flatMap M.encE)) ∧ Bel W0 wr) (fun _ i _ => es.length - (intOf i).toNat)
          case atStart => exact ⟨0, Nat.zero_le _, rfl, by rw [HSTART.out]; simp, ((b1.dr).al _).tr b4⟩
          case round =>
            obtain ⟨k, hk, rfl, rfl, hb⟩ := hrel
            obtain ⟨W1, rfl⟩ : ∃ W1, W1 = wr := ⟨_, rfl⟩
            obtain ⟨x0, x1, x2, x3, x4, x5⟩ := (g0.bel hb).cells
            by_cases hlt : k < es.length
            · obtain ⟨bx, ox, rfl, hrx⟩ := (HV.out.bel hb).row (by omega)
              obtain ⟨c1, c2, c3⟩ := hrx k hlt
              have he := HE6.out es[k] (List.getElem_mem hlt)
              have HT : Hid (M.bs (Q0 ++ (es.take (k + 1)).flatMap M.encE) = M.bs (Q0 ++ (es.take k).flatMap M.encE) ++ M.bs (M.encE es[k])) := by
                show _ = _
                rw [List.take_succ_eq_append_getElem hlt, List.flatMap_append, M.bs_append, List.append_assoc]
                simp
              have hsz : (M.bs (Q0 ++ (es.take k).flatMap M.encE)).size ≤ 100000 := by
                have h1 := flat_le es k HE6.out
                have h2 := HQL.out
                rw [M.bs_size, List.length_append]; omega
              clear hrx
              generalize M.bs (Q0 ++ (es.take k).flatMap M.encE) = S at *
              generalize es[k] = v at *
              obtain ⟨kk, vv, mm⟩ := v
              simp only at he c1 c2 c3
              have zk : (M.bs kk).size = kk.length := M.bs_size kk
              have zv : (M.bs vv).size = vv.length := M.bs_size vv
              obtain ⟨E3, hE3⟩ : ∃ E3, E3 = strOfNums [(M.markN mm : Int), (kk.length : Int), (vv.length : Int)] := ⟨_, rfl⟩
              have z3 : E3.size = 3 := by rw [hE3]; rfl
              have z4 : (E3 ++ M.bs kk).size = 3 + kk.length := by rw [ByteArray.size_append, z3, zk]
              have z5 : (E3 ++ M.bs kk ++ M.bs vv).size = 3 + kk.length + vv.length := by rw [ByteArray.size_append, z4, zv]
              have HTE : Hid (E3 ++ M.bs kk ++ M.bs vv = M.bs (M.encE (kk, vv, mm))) := by
                show _ = _
                have := rent_bytes kk vv mm he.1 he.2
                rw [hE3, M.nums_bs]
                simp only [List.map_cons, List.map_nil, Int.toNat_natCast]
                rw [this, M.bs_append, M.bs_append]
                congr 1
                unfold M.encE
                simp only [List.append_assoc]
              have k3 := conv3n (W1.alloc (.cells #[.string (M.bs kk), .string (M.bs vv), .bool mm] 88)) (M.markN mm : Int) (kk.length : Int) (vv.length : Int)
              rw [← hE3, show (W1.alloc (.cells #[.string (M.bs kk), .string (M.bs vv), .bool mm] 88)).heap.size = W1.heap.size + 1 by simp] at k3
              clear hE3
              cases mm
              all_goals
                simp only [M.markN, if_true, Bool.false_eq_true, if_false, Int.natCast_zero, Int.natCast_one] at k3
                go_wp2_with fail
                go_roundw
                case rel => exact ⟨k + 1, by omega, by go_num, by rw [HT.out, ← HTE.out], (hb.al _).al _⟩
                case measure => simp [intOf]; omega
            · have HT : Hid (M.bs (Q0 ++ (es.take k).flatMap M.encE) = M.bs (M.put lsn 6 ++ PRE)) := by
                show _ = _; rw [List.take_of_length_le (by omega), HPRE.out]
              rw [HT.out]
              go_wp2_with fail
              go_loopw [5] (fun s wr => ∃ j : Nat, j ≤ 496 - PRE.length ∧ s = .string (M.bs (M.put lsn 6 ++ PRE ++ List.replicate j 0)) ∧ W1 = wr) (fun s _ => 502 - lenOf s)
              case atStart => exact ⟨0, Nat.zero_le _, by simp, rfl⟩
              case round =>
                obtain ⟨j, hj, rfl, rfl⟩ := hrel
                have hsz : (M.bs (M.put lsn 6 ++ PRE ++ List.replicate j 0)).size = 6 + PRE.length + j := by
                  rw [M.bs_size, List.length_append, List.length_append, List.length_replicate, hp6]
                have HS : Hid (M.bs (M.put lsn 6 ++ PRE ++ List.replicate j 0) ++ ⟨#[0]⟩ = M.bs (M.put lsn 6 ++ PRE ++ List.replicate (j + 1) 0)) := by
                  show _ ++ M.bs [0] = _
                  rw [M.bs_append, List.append_assoc (M.put lsn 6 ++ PRE), ← List.replicate_succ']
                have HR : Hid (j = 496 - PRE.length → M.bs (M.put lsn 6 ++ PRE ++ List.replicate (496 - PRE.length) 0) = M.bs (M.put lsn 6 ++ PRE ++ List.replicate j 0)) := fun h => by rw [h]
                by_cases hlt2 : j < 496 - PRE.length
                · generalize M.bs (M.put lsn 6 ++ PRE ++ List.replicate j 0) = S at *
                  have hz1 : (ByteArray.mk #[0]).size = 1 := rfl
                  go_wp2_with fail
                  go_roundw
                  case rel => exact ⟨j + 1, by omega, by rw [HS.out], trivial⟩
                  case measure => simp [lenOf, ByteArray.size_append, hz1]; omega
                · have HR := HR.out (by omega)
                  rw [HR] at HSL
                  clear HR HS
                  generalize M.bs (M.put lsn 6 ++ PRE ++ List.replicate j 0) = S at *
                  go_wp2_with fail
                  refine (HP6 _).mono ?_
                  rintro e w5 ⟨rfl, b5⟩
                  go_wp2_with fail
                  refine (HSL _).mono ?_
                  rintro e w6 ⟨rfl, b6⟩
                  go_wp2_with fail
                  go_ret2
                  exact ⟨by rw [HE.out, ← HLAST.out]; simp only [List.append_assoc]; rfl, ((bW.tr hb).tr b5).tr b6⟩
theorem rencode_any (p : M.Pg) (x : Value) (w : World) (hs : Sm p) (hv : Vals w x p.es) :
    Calls Tryd.prog 14 #[pv p x] w fun e w' => e = .returned (.tuple #[.string (M.bs (M.encode p).1), .int .i64 ((M.encode p).2 : Int)]) ∧ Bel w w' := by
  obtain ⟨a, cap, rfl, _⟩ := id hv
  by_cases h : M.hdB p
  · exact rencode_body p a cap w hs hv h
  · have e : M.encode p = ([], 1) := by
      unfold M.encode; rw [if_neg]; rw [M.inB_iff]; exact fun h' => h h'.1
    rw [e]
    exact rencode_head p a cap w h
end Go.Proofs.YtaepbmcmggnmpaaDoor
