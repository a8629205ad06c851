/-
  The contracts of page's between, Size, Free, inBounds, Build, walked.
-/
import Derived.Test.YtaepbmcmggnmpaaDoorE
import Derived.Test.YtaepbmcmggnmpaaDoorP
namespace Go.Proofs.YtaepbmcmggnmpaaDoor
open Go.RowKit
set_option maxRecDepth 100000

theorem info71 : (Tryd.prog.info? 71).map (fun i => (i.zero, i.size, i.bytes)) = some (some (.agg #[.string ⟨#[]⟩, .string ⟨#[]⟩, .bool false]), 3, 40) := by kernel_rfl
/-- The cells from ⟨b, off⟩ on hold the entries of L, three cells each. -/
def Row3 (w : World) (b off : Nat) (L : List M.En) : Prop := ∀ j (h : j < L.length),
  w.cell? ⟨b, off + j * 3, none⟩ = some (.string (M.bs L[j].1)) ∧ w.cell? ⟨b, off + j * 3 + 1, none⟩ = some (.string (M.bs L[j].2.1)) ∧ w.cell? ⟨b, off + j * 3 + 2, none⟩ = some (.bool L[j].2.2)
theorem Row3.lt {w : World} {b off : Nat} {L : List M.En} (h : Row3 w b off L) (hL : 0 < L.length) : b < w.heap.size := block_lt_of_cell (h 0 hL).1
theorem Row3.below {w w' : World} {b off B : Nat} {L : List M.En} (h : Row3 w b off L) (hb : Below B w w') (hB : b < B) : Row3 w' b off L := fun j hj =>
  ⟨(hb.cell (p := ⟨b, off + j * 3, none⟩) hB).trans (h j hj).1, (hb.cell (p := ⟨b, off + j * 3 + 1, none⟩) hB).trans (h j hj).2.1, (hb.cell (p := ⟨b, off + j * 3 + 2, none⟩) hB).trans (h j hj).2.2⟩
/-- What a slice value shows. -/
def Vals (w : World) (x : Value) (L : List M.En) : Prop := ∃ a cap, x = .slice a L.length cap ∧ (L = [] ∨ ∃ b off, a = some ⟨b, off, none⟩ ∧ Row3 w b off L)
theorem Vals.bel {w w' : World} {x : Value} {L : List M.En} (h : Vals w x L) (hb : Bel w w') : Vals w' x L := by
  obtain ⟨a, cap, hx, h | ⟨b, off, ha, hr⟩⟩ := h
  · exact ⟨a, cap, hx, .inl h⟩
  · by_cases hL : 0 < L.length
    · exact ⟨a, cap, hx, .inr ⟨b, off, ha, hr.below hb (hr.lt hL)⟩⟩
    · exact ⟨a, cap, hx, .inl (List.length_eq_zero_iff.1 (by omega))⟩
theorem Vals.nil (w : World) : Vals w (.slice none 0 0) [] := ⟨none, 0, rfl, .inl rfl⟩
/-- A page as a value. -/
abbrev pv (p : M.Pg) (x : Value) : Value := .agg #[.int .i64 p.lsn, .int .i64 p.kind, .int .i64 p.level, .int .i64 p.right, .string (M.bs p.high), x]
abbrev ev (e : M.En) : Value := .agg #[.string (M.bs e.1), .string (M.bs e.2.1), .bool e.2.2]
/-- Small enough that no number goes beyond an int. -/
structure Sm (p : M.Pg) : Prop where
  high : p.high.length ≤ 1000
  es : p.es.length ≤ 1000
  each : ∀ e ∈ p.es, e.1.length ≤ 1000 ∧ e.2.1.length ≤ 1000

theorem between_any (a n b : Int) (w : World) : Calls Tryd.prog 49 #[.int .i64 a, .int .i64 n, .int .i64 b] w fun e w' => e = .returned (.bool (M.btw a n b)) ∧ w = w' := by
  by_cases h1 : a ≤ n
  · by_cases h2 : n ≤ b
    · have HE : Hid (M.btw a n b = true) := by show _ = _; simp [M.btw, h1, h2]
      go_enter Tryd.func49, Tryd.ntmps49
      go_wp2
      go_ret
      exact ⟨by rw [HE.out]; rfl, rfl⟩
    · have HE : Hid (M.btw a n b = false) := by show _ = _; simp only [M.btw, decide_eq_false h2, Bool.and_false]
      have h2' : b < n := by omega
      go_enter Tryd.func49, Tryd.ntmps49
      go_wp2
      go_ret
      exact ⟨by rw [HE.out]; rfl, rfl⟩
  · have HE : Hid (M.btw a n b = false) := by show _ = _; simp only [M.btw, decide_eq_false h1, Bool.false_and]
    go_enter Tryd.func49, Tryd.ntmps49
    go_wp2
    go_ret
    exact ⟨by rw [HE.out]; rfl, rfl⟩
theorem size_any (k v : List UInt8) (m : Bool) (w : World) (hk : k.length ≤ 1000000) (hv : v.length ≤ 1000000) :
    Calls Tryd.prog 31 #[.agg #[.string (M.bs k), .string (M.bs v), .bool m]] w fun e w' => e = .returned (.int .i64 (M.szE (k, v, m) : Int)) ∧ Bel w w' := by
  have zk : (M.bs k).size = k.length := M.bs_size k
  have zv : (M.bs v).size = v.length := M.bs_size v
  have HE : Hid ((3 : Int) + (k.length : Int) + (v.length : Int) = (M.szE (k, v, m) : Int)) := by show _ = _; simp only [M.szE]; omega
  go_enter Tryd.func31, Tryd.ntmps31
  go_wp2
  go_ret
  exact ⟨by rw [← HE.out]; rfl, Bel.al (Below.refl _ _) _⟩
theorem szs_le (L : List M.En) (h : ∀ e ∈ L, e.1.length ≤ 1000 ∧ e.2.1.length ≤ 1000) : M.szs L ≤ L.length * 2003 := by
  induction L with
  | nil => simp [M.szs]
  | cons e L ih =>
    have := ih (fun x hx => h x (by simp [hx]))
    have := h e (by simp)
    simp only [M.szs, M.szE, List.length_cons]; omega
set_option maxHeartbeats 1000000 in
theorem free_some (p : M.Pg) (b off cap : Nat) (w : World) (hs : Sm p) (hv : Row3 w b off p.es) (hL : 0 < p.es.length) :
    Calls Tryd.prog 15 #[pv p (.slice (some ⟨b, off, none⟩) p.es.length cap)] w fun e w' => e = .returned (.int .i64 (M.free p)) ∧ Bel w w' := by
  obtain ⟨lsn, kind, level, right, high, es⟩ := p
  obtain ⟨h1, h2, h3⟩ := hs
  simp only at hv hL h1 h2 h3 ⊢
  have hbw := hv.lt hL
  have zh : (M.bs high).size = high.length := M.bs_size high
  go_enter Tryd.func15, Tryd.ntmps15
  go_wp2_with fail
  go_loopw [3, 13] (fun fv i wr => ∃ k : Nat, k ≤ es.length ∧ i = .int .i64 k ∧ fv = .int .i64 (489 - (high.length : Int) - (M.szs (es.take k) : Int)) ∧ Bel w wr) (fun _ i _ => es.length - (intOf i).toNat)
  case atStart => exact ⟨0, Nat.zero_le _, rfl, by simp [M.szs], Bel.al (Below.refl _ _) _⟩
  case round =>
    obtain ⟨k, hk, rfl, rfl, hb⟩ := hrel
    by_cases hlt : k < es.length
    · obtain ⟨c1, c2, c3⟩ := (hv.below hb hbw) k hlt
      have he := h3 es[k] (List.getElem_mem hlt)
      have HT : Hid (M.szs (es.take (k + 1)) = M.szs (es.take k) + M.szE es[k]) := by show _ = _; rw [List.take_succ_eq_append_getElem hlt, M.szs_snoc]
      have hsz : M.szs (es.take k) ≤ 2003000 := by
        have := szs_le (es.take k) (fun e he => h3 e (List.mem_of_mem_take he))
        rw [List.length_take] at this
        have : min k es.length * 2003 ≤ 1000 * 2003 := Nat.mul_le_mul_right _ (by omega)
        omega
      clear h3 hv
      generalize es[k] = v at *
      obtain ⟨kk, vv, mm⟩ := v
      simp only at he c1 c2 c3
      have hze : M.szE (kk, vv, mm) ≤ 2003 := by simp only [M.szE]; omega
      have H := fun W => size_any kk vv mm W (by omega) (by omega)
      generalize M.szs (es.take k) = S at *
      generalize M.szE (kk, vv, mm) = Z at *
      go_wp2_with fail
      refine (H _).mono ?_
      rintro e w1 ⟨rfl, b1⟩
      go_wp2_with fail
      go_roundw
      case rel => exact ⟨k + 1, by omega, by go_num, by rw [HT.out]; go_num, (hb.al _).tr b1⟩
      case measure => simp [intOf]; omega
    · have HF : Hid (M.szs (es.take k) = M.szs es) := by show _ = _; rw [List.take_of_length_le (by omega)]
      go_wp2_with fail
      go_ret
      exact ⟨by rw [HF.out]; rfl, hb⟩
theorem free_nil (p : M.Pg) (a : Option Addr) (cap : Nat) (w : World) (hs : Sm p) (h0 : p.es = []) :
    Calls Tryd.prog 15 #[pv p (.slice a 0 cap)] w fun e w' => e = .returned (.int .i64 (M.free p)) ∧ Bel w w' := by
  obtain ⟨lsn, kind, level, right, high, es⟩ := p
  obtain ⟨h1, h2, h3⟩ := hs
  simp only at h0 h1 ⊢
  subst h0
  have zh : (M.bs high).size = high.length := M.bs_size high
  have HE : Hid (M.free ⟨lsn, kind, level, right, high, []⟩ = 489 - (high.length : Int)) := by show _ = _; simp [M.free, M.szs]
  go_enter Tryd.func15, Tryd.ntmps15
  go_wp2_with fail
  refine wp_loop_rounds 1 ?_
  rw [rounds_succ]
  go_wp2_with fail
  go_ret
  exact ⟨by rw [HE.out]; rfl, Bel.al (Below.refl _ _) _⟩
theorem free_any (p : M.Pg) (x : Value) (w : World) (hs : Sm p) (hv : Vals w x p.es) :
    Calls Tryd.prog 15 #[pv p x] w fun e w' => e = .returned (.int .i64 (M.free p)) ∧ Bel w w' := by
  obtain ⟨a, cap, rfl, hv⟩ := hv
  by_cases h0 : p.es = []
  · rw [show p.es.length = 0 by rw [h0]; rfl]; exact free_nil p a cap w hs h0
  · obtain ⟨b, off, rfl, hr⟩ := hv.resolve_left h0
    refine free_some p b off cap w hs hr ?_
    have : p.es.length ≠ 0 := fun h => h0 (List.length_eq_zero_iff.1 h)
    omega

theorem long_any (k v : List UInt8) (m : Bool) (w : World) (hk : k.length ≤ 1000000) (hv : v.length ≤ 1000000) :
    Calls Tryd.prog 69 #[.agg #[.string (M.bs k), .string (M.bs v), .bool m]] w fun e w' => e = .returned (.bool (M.longE (k, v, m))) ∧ Bel w w' := by
  have zk : (M.bs k).size = k.length := M.bs_size k
  have zv : (M.bs v).size = v.length := M.bs_size v
  by_cases h1 : 64 < k.length
  · have HE : Hid (M.longE (k, v, m) = true) := by show _ = _; simp [M.longE, h1]
    go_enter Tryd.func69, Tryd.ntmps69
    go_wp2
    go_ret
    exact ⟨by rw [HE.out]; rfl, Bel.al (Below.refl _ _) _⟩
  · by_cases h2 : 100 < v.length
    · have HE : Hid (M.longE (k, v, m) = true) := by show _ = _; simp [M.longE, h2]
      have d1 : decide ((64 : Int) < (k.length : Int)) = false := by apply decide_eq_false; omega
      have d2 : decide ((100 : Int) < (v.length : Int)) = true := by apply decide_eq_true; omega
      go_enter Tryd.func69, Tryd.ntmps69
      go_wp2
      go_ret
      exact ⟨by rw [HE.out]; rfl, Bel.al (Below.refl _ _) _⟩
    · have HE : Hid (M.longE (k, v, m) = false) := by show _ = _; simp [M.longE]; omega
      have d1 : decide ((64 : Int) < (k.length : Int)) = false := by apply decide_eq_false; omega
      have d2 : decide ((100 : Int) < (v.length : Int)) = false := by apply decide_eq_false; omega
      go_enter Tryd.func69, Tryd.ntmps69
      go_wp2
      go_ret
      exact ⟨by rw [HE.out]; rfl, Bel.al (Below.refl _ _) _⟩
set_option maxHeartbeats 1000000 in
theorem index_some (L : List M.En) (b off cap : Nat) (w : World) (hv : Row3 w b off L) (hL : 0 < L.length) (h3 : ∀ e ∈ L, e.1.length ≤ 1000 ∧ e.2.1.length ≤ 1000) (hL2 : L.length ≤ 1000) :
    Calls Tryd.prog 92 #[.slice (some ⟨b, off, none⟩) L.length cap, .func (.func 69) #[] #[]] w fun e w' => (∃ n : Int, e = .returned (.int .i64 n) ∧ (0 ≤ n ↔ L.any M.longE = true)) ∧ Bel w w' := by
  have hbw := hv.lt hL
  go_enter Tryd.func92, Tryd.ntmps92
  go_wp2_with fail
  go_loopw [8] (fun i wr => ∃ k : Nat, k ≤ L.length ∧ i = .int .i64 k ∧ (L.take k).any M.longE = false ∧ Bel w wr) (fun i _ => L.length - (intOf i).toNat)
  case atStart => exact ⟨0, Nat.zero_le _, rfl, rfl, Below.refl _ _⟩
  case round =>
    obtain ⟨k, hk, rfl, hno, hb⟩ := hrel
    by_cases hlt : k < L.length
    · obtain ⟨c1, c2, c3⟩ := (hv.below hb hbw) k hlt
      have he := h3 L[k] (List.getElem_mem hlt)
      have HY : Hid (M.longE L[k] = true → L.any M.longE = true) := fun h => List.any_eq_true.2 ⟨_, List.getElem_mem hlt, h⟩
      have HN : Hid (M.longE L[k] = false → (L.take (k + 1)).any M.longE = false) := fun h => by rw [List.take_succ_eq_append_getElem hlt, List.any_append, hno]; simp [h]
      clear h3 hv hno
      generalize L[k] = v at *
      obtain ⟨kk, vv, mm⟩ := v
      simp only at he c1 c2 c3
      have H := fun W => long_any kk vv mm W (by omega) (by omega)
      by_cases hl : M.longE (kk, vv, mm) = true
      · rw [hl] at H
        have HF := hid (HY.out hl)
        clear hl HY HN
        go_wp2_with fail
        refine (H _).mono ?_
        rintro e w1 ⟨rfl, b1⟩
        go_wp2_with fail
        go_ret
        exact ⟨⟨(k : Int), rfl, ⟨fun _ => HF.out, fun _ => by omega⟩⟩, hb.tr b1⟩
      · rw [Bool.not_eq_true] at hl
        rw [hl] at H
        have HF := hid (HN.out hl)
        clear hl HY HN
        go_wp2_with fail
        refine (H _).mono ?_
        rintro e w1 ⟨rfl, b1⟩
        go_wp2_with fail
        go_roundw
        case rel => exact ⟨k + 1, by omega, by go_num, HF.out, hb.tr b1⟩
        case measure => simp [intOf]; omega
    · have HF : Hid (L.any M.longE = false) := by show _ = _; rw [List.take_of_length_le (by omega)] at hno; exact hno
      clear hno
      go_wp2_with fail
      go_ret
      exact ⟨⟨-1, rfl, ⟨fun h => by omega, fun h => by rw [HF.out] at h; cases h⟩⟩, hb⟩
theorem index_nil (a : Option Addr) (cap : Nat) (w : World) :
    Calls Tryd.prog 92 #[.slice a 0 cap, .func (.func 69) #[] #[]] w fun e w' => (∃ n : Int, e = .returned (.int .i64 n) ∧ (0 ≤ n ↔ ([] : List M.En).any M.longE = true)) ∧ Bel w w' := by
  go_enter Tryd.func92, Tryd.ntmps92
  go_wp2_with fail
  refine wp_loop_rounds 1 ?_
  rw [rounds_succ]
  go_wp2_with fail
  go_ret
  exact ⟨⟨-1, rfl, by simp⟩, Below.refl _ _⟩
theorem contains_any (L : List M.En) (x : Value) (w : World) (hv : Vals w x L) (h3 : ∀ e ∈ L, e.1.length ≤ 1000 ∧ e.2.1.length ≤ 1000) (hL2 : L.length ≤ 1000) :
    Calls Tryd.prog 70 #[x, .func (.func 69) #[] #[]] w fun e w' => e = .returned (.bool (L.any M.longE)) ∧ Bel w w' := by
  have H : Calls Tryd.prog 92 #[x, .func (.func 69) #[] #[]] w fun e w' => (∃ n : Int, e = .returned (.int .i64 n) ∧ (0 ≤ n ↔ L.any M.longE = true)) ∧ Bel w w' := by
    obtain ⟨a, cap, rfl, hv⟩ := hv
    by_cases h0 : L = []
    · subst h0; exact index_nil a cap w
    · obtain ⟨b, off, rfl, hr⟩ := hv.resolve_left h0
      refine index_some L b off cap w hr ?_ h3 hL2
      have : L.length ≠ 0 := fun h => h0 (List.length_eq_zero_iff.1 h)
      omega
  clear hv h3
  go_enter Tryd.func70, Tryd.ntmps70
  go_wp2_with fail
  refine H.mono ?_
  rintro e w1 ⟨⟨n, rfl, hn⟩, b1⟩
  have HN : Hid (decide ((0 : Int) ≤ n) = L.any M.longE) := by
    show _ = _
    rw [Bool.eq_iff_iff, decide_eq_true_eq]; exact hn
  clear hn
  go_wp2_with fail
  go_ret
  exact ⟨by rw [← HN.out]; rfl, b1⟩
set_option maxHeartbeats 2000000 in
theorem inBounds_any (p : M.Pg) (x : Value) (w : World) (hs : Sm p) (hv : Vals w x p.es) :
    Calls Tryd.prog 41 #[pv p x] w fun e w' => e = .returned (.bool (M.inB p)) ∧ Bel w w' := by
  have Hc := fun W hv => contains_any p.es x W hv hs.each hs.es
  have HB : Hid (M.inB p = (M.btw 0 p.lsn 281474976710655 && M.btw 1 p.kind 255 && M.btw 0 p.level 255 && M.btw 0 p.right 65535 && decide (p.high.length ≤ 64) && !p.es.any M.longE)) := rfl
  have hh := hs.high
  obtain ⟨lsn, kind, level, right, high, es⟩ := p
  simp only at Hc HB hh hv ⊢
  have zh : (M.bs high).size = high.length := M.bs_size high
  have K1 := fun W => between_any 0 lsn 281474976710655 W
  have K2 := fun W => between_any 1 kind 255 W
  have K3 := fun W => between_any 0 level 255 W
  have K4 := fun W => between_any 0 right 65535 W
  have hd : decide ((high.length : Int) ≤ 64) = decide (high.length ≤ 64) := by rw [decide_eq_decide]; omega
  generalize M.btw 0 lsn 281474976710655 = x1 at *
  generalize M.btw 1 kind 255 = x2 at *
  generalize M.btw 0 level 255 = x3 at *
  generalize M.btw 0 right 65535 = x4 at *
  generalize decide (high.length ≤ 64) = x5 at *
  generalize es.any M.longE = x6 at *
  cases x1
  · go_enter Tryd.func41, Tryd.ntmps41
    go_wp2_with fail
    refine (K1 _).mono ?_
    rintro e w1 ⟨rfl, rfl⟩
    go_wp2_with fail
    go_ret
    exact ⟨by rw [HB.out]; rfl, Bel.al (Below.refl _ _) _⟩
  · cases x2
    · go_enter Tryd.func41, Tryd.ntmps41
      go_wp2_with fail
      refine (K1 _).mono ?_
      rintro e w1 ⟨rfl, rfl⟩
      go_wp2_with fail
      refine (K2 _).mono ?_
      rintro e w1 ⟨rfl, rfl⟩
      go_wp2_with fail
      go_ret
      exact ⟨by rw [HB.out]; rfl, Bel.al (Below.refl _ _) _⟩
    · cases x3
      · go_enter Tryd.func41, Tryd.ntmps41
        go_wp2_with fail
        refine (K1 _).mono ?_
        rintro e w1 ⟨rfl, rfl⟩
        go_wp2_with fail
        refine (K2 _).mono ?_
        rintro e w1 ⟨rfl, rfl⟩
        go_wp2_with fail
        refine (K3 _).mono ?_
        rintro e w1 ⟨rfl, rfl⟩
        go_wp2_with fail
        go_ret
        exact ⟨by rw [HB.out]; rfl, Bel.al (Below.refl _ _) _⟩
      · cases x4
        · go_enter Tryd.func41, Tryd.ntmps41
          go_wp2_with fail
          refine (K1 _).mono ?_
          rintro e w1 ⟨rfl, rfl⟩
          go_wp2_with fail
          refine (K2 _).mono ?_
          rintro e w1 ⟨rfl, rfl⟩
          go_wp2_with fail
          refine (K3 _).mono ?_
          rintro e w1 ⟨rfl, rfl⟩
          go_wp2_with fail
          refine (K4 _).mono ?_
          rintro e w1 ⟨rfl, rfl⟩
          go_wp2_with fail
          go_ret
          exact ⟨by rw [HB.out]; rfl, Bel.al (Below.refl _ _) _⟩
        · cases x5
          · go_enter Tryd.func41, Tryd.ntmps41
            go_wp2_with fail
            refine (K1 _).mono ?_
            rintro e w1 ⟨rfl, rfl⟩
            go_wp2_with fail
            refine (K2 _).mono ?_
            rintro e w1 ⟨rfl, rfl⟩
            go_wp2_with fail
            refine (K3 _).mono ?_
            rintro e w1 ⟨rfl, rfl⟩
            go_wp2_with fail
            refine (K4 _).mono ?_
            rintro e w1 ⟨rfl, rfl⟩
            go_wp2_with fail
            go_ret
            exact ⟨by rw [HB.out]; rfl, Bel.al (Below.refl _ _) _⟩
          · cases x6
            all_goals
              go_enter Tryd.func41, Tryd.ntmps41
              go_wp2_with fail
              refine (K1 _).mono ?_
              rintro e w1 ⟨rfl, rfl⟩
              go_wp2_with fail
              refine (K2 _).mono ?_
              rintro e w1 ⟨rfl, rfl⟩
              go_wp2_with fail
              refine (K3 _).mono ?_
              rintro e w1 ⟨rfl, rfl⟩
              go_wp2_with fail
              refine (K4 _).mono ?_
              rintro e w1 ⟨rfl, rfl⟩
              go_wp2_with fail
              refine (Hc _ (hv.bel (Bel.al (Below.refl _ _) _))).mono ?_
              rintro e w1 ⟨rfl, b1⟩
              go_wp2_with fail
              go_ret
              exact ⟨by rw [HB.out]; rfl, Bel.tr (Bel.al (Below.refl _ _) _) b1⟩

set_option maxHeartbeats 1000000 in
theorem build_any (lsn : Int) (l : List UInt8) (w : World) (hT : Tab w) (_hl : l.length ≤ 1000000) (hi : -9223372036854775808 ≤ lsn ∧ lsn ≤ 9223372036854775807) :
    Calls Tryd.prog 21 #[.int .i64 lsn, .string (M.bs l)] w fun e w' => e = .returned (.string (M.bs (M.build lsn l))) ∧ Bel w w' := by
  have zl : (M.bs l).size = l.length := M.bs_size l
  have K := fun W => between_any 0 lsn 281474976710655 W
  by_cases hb : M.btw 0 lsn 281474976710655 = true
  · by_cases h496 : l.length = 496
    · have HE : Hid (M.build lsn l = M.sealL (M.put lsn 6 ++ l ++ M.put lsn 6)) := by show _ = _; unfold M.build; rw [if_pos ⟨hb, h496⟩]
      have q : (((l.length : Nat) : Int) != 496) = false := by rw [bne_eq_false_iff_eq]; omega
      have hp := M.put_6 lsn (M.btw_iff.1 hb).1 (M.btw_iff.1 hb).2
      have Hp := fun W => put_any lsn 6 W hi (by omega)
      have Hs := fun W => seal_any (M.bs (M.put lsn 6 ++ l ++ M.put lsn 6)) W (by rw [M.bs_size, List.length_append, List.length_append]; unfold maxLen; omega)
      rw [M.bs_data, ← M.bs_append, ← M.bs_append] at Hs
      rw [hb] at K
      have z1 : (M.bs (M.put lsn 6)).size = 6 := by rw [M.bs_size, hp]
      have z2 : (M.bs (M.put lsn 6) ++ M.bs l).size = 6 + l.length := by rw [M.bs_append, M.bs_size, List.length_append, hp]
      generalize M.sealL (M.put lsn 6 ++ l ++ M.put lsn 6) = S at *
      generalize M.bs (M.put lsn 6) = P at *
      go_enter Tryd.func21, Tryd.ntmps21
      go_wp2_with fail
      refine (K _).mono ?_
      rintro e w1 ⟨rfl, rfl⟩
      go_wp2_with fail
      refine (Hp _).mono ?_
      rintro e w2 ⟨rfl, b2⟩
      go_wp2_with fail
      refine (Hs _ (hT.bel b2)).mono ?_
      rintro e w3 ⟨rfl, b3⟩
      go_wp2_with fail
      go_ret
      exact ⟨by rw [HE.out]; rfl, b2.tr b3⟩
    · have HE : Hid (M.build lsn l = []) := by show _ = _; unfold M.build; rw [if_neg (fun h => h496 h.2)]
      have q : (((l.length : Nat) : Int) != 496) = true := by rw [bne_iff_ne]; omega
      rw [hb] at K
      go_enter Tryd.func21, Tryd.ntmps21
      go_wp2_with fail
      refine (K _).mono ?_
      rintro e w1 ⟨rfl, rfl⟩
      go_wp2_with fail
      go_ret
      exact ⟨by rw [HE.out]; rfl, Below.refl _ _⟩
  · have HE : Hid (M.build lsn l = []) := by show _ = _; unfold M.build; rw [if_neg (fun h => hb h.1)]
    rw [Bool.not_eq_true] at hb
    rw [hb] at K
    go_enter Tryd.func21, Tryd.ntmps21
    go_wp2_with fail
    refine (K _).mono ?_
    rintro e w1 ⟨rfl, rfl⟩
    go_wp2_with fail
    go_ret
    exact ⟨by rw [HE.out]; rfl, Below.refl _ _⟩
end Go.Proofs.YtaepbmcmggnmpaaDoor
