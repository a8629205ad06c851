/-
  Pages as values; the contracts of page's Size and Free, of node's Covers, walked.
-/
import Derived.Test.YtcmplklefeicbaaW
namespace Go.Proofs.Ytcmplklefeicbaa.M
/-- An entry: its key, its value, whether it is marked. -/
abbrev En := List UInt8 × List UInt8 × Bool
structure Pg where
  lsn : Int
  kind : Int
  level : Int
  right : Int
  high : List UInt8
  es : List En
def szE (e : En) : Nat := 3 + e.1.length + e.2.1.length
def szs : List En → Nat
  | [] => 0
  | e :: L => szE e + szs L
theorem szs_snoc (L : List En) (e : En) : szs (L ++ [e]) = szs L + szE e := by
  induction L with
  | nil => simp [szs]
  | cons a L ih => simp only [List.cons_append, szs, ih]; omega
theorem szs_append (L K : List En) : szs (L ++ K) = szs L + szs K := by
  induction L with
  | nil => simp [szs]
  | cons a L ih => simp only [List.cons_append, szs, ih]; omega
def free (p : Pg) : Int := 489 - (p.high.length : Int) - (szs p.es : Int)
def cov (high k : List UInt8) : Bool := high.isEmpty || ltS k high
end Go.Proofs.Ytcmplklefeicbaa.M
namespace Go.Proofs.Ytcmplklefeicbaa
open Go.RowKit
set_option maxRecDepth 100000

/-- The cells from ⟨b, off⟩ on hold the entries of L, three cells each. -/
def Row3 (w : World) (b off : Nat) (L : List M.En) : Prop := ∀ j (h : j < L.length),
  w.cell? ⟨b, off + j * 3, none⟩ = some (.string (M.bs L[j].1)) ∧ w.cell? ⟨b, off + j * 3 + 1, none⟩ = some (.string (M.bs L[j].2.1)) ∧ w.cell? ⟨b, off + j * 3 + 2, none⟩ = some (.bool L[j].2.2)
theorem Row3.lt {w : World} {b off : Nat} {L : List M.En} (h : Row3 w b off L) (hL : 0 < L.length) : b < w.heap.size := block_lt_of_cell (h 0 hL).1
theorem Row3.below {w w' : World} {b off B : Nat} {L : List M.En} (h : Row3 w b off L) (hb : Below B w w') (hB : b < B) : Row3 w' b off L := fun j hj =>
  ⟨(hb.cell (p := ⟨b, off + j * 3, none⟩) hB).trans (h j hj).1, (hb.cell (p := ⟨b, off + j * 3 + 1, none⟩) hB).trans (h j hj).2.1, (hb.cell (p := ⟨b, off + j * 3 + 2, none⟩) hB).trans (h j hj).2.2⟩
/-- What a slice value shows. -/
def Vals (w : World) (x : Value) (L : List M.En) : Prop := ∃ a cap, x = .slice a L.length cap ∧ (L = [] ∨ ∃ b off, a = some ⟨b, off, none⟩ ∧ Row3 w b off L)
theorem Vals.bel {w w' : World} {x : Value} {L : List M.En} (h : Vals w x L) (hb : Bel w w') : Vals w' x L := by
  obtain ⟨a, cap, hx, h | ⟨b, off, ha, hr⟩⟩ := h
  · exact ⟨a, cap, hx, .inl h⟩
  · by_cases hL : 0 < L.length
    · exact ⟨a, cap, hx, .inr ⟨b, off, ha, hr.below hb (hr.lt hL)⟩⟩
    · exact ⟨a, cap, hx, .inl (List.length_eq_zero_iff.1 (by omega))⟩
theorem Vals.nil (w : World) : Vals w (.slice none 0 0) [] := ⟨none, 0, rfl, .inl rfl⟩
/-- A page as a value. -/
abbrev pv (p : M.Pg) (x : Value) : Value := .agg #[.int .i64 p.lsn, .int .i64 p.kind, .int .i64 p.level, .int .i64 p.right, .string (M.bs p.high), x]
abbrev ev (e : M.En) : Value := .agg #[.string (M.bs e.1), .string (M.bs e.2.1), .bool e.2.2]
/-- Small enough that no number goes beyond an int. -/
structure Sm (p : M.Pg) : Prop where
  high : p.high.length ≤ 1000
  es : p.es.length ≤ 1000
  each : ∀ e ∈ p.es, e.1.length ≤ 1000 ∧ e.2.1.length ≤ 1000

theorem size_any (k v : List UInt8) (m : Bool) (w : World) (hk : k.length ≤ 1000000) (hv : v.length ≤ 1000000) :
    Calls Try.prog 23 #[.agg #[.string (M.bs k), .string (M.bs v), .bool m]] w fun e w' => e = .returned (.int .i64 (M.szE (k, v, m) : Int)) ∧ Bel w w' := by
  have zk : (M.bs k).size = k.length := M.bs_size k
  have zv : (M.bs v).size = v.length := M.bs_size v
  have HE : Hid ((3 : Int) + (k.length : Int) + (v.length : Int) = (M.szE (k, v, m) : Int)) := by show _ = _; simp only [M.szE]; omega
  go_enter Try.func23, Try.ntmps23
  go_wp2
  go_ret
  exact ⟨by rw [← HE.out]; rfl, Bel.al (Below.refl _ _) _⟩
theorem szs_le (L : List M.En) (h : ∀ e ∈ L, e.1.length ≤ 1000 ∧ e.2.1.length ≤ 1000) : M.szs L ≤ L.length * 2003 := by
  induction L with
  | nil => simp [M.szs]
  | cons e L ih =>
    have := ih (fun x hx => h x (by simp [hx]))
    have := h e (by simp)
    simp only [M.szs, M.szE, List.length_cons]; omega
set_option maxHeartbeats 1000000 in
theorem free_some (p : M.Pg) (b off cap : Nat) (w : World) (hs : Sm p) (hv : Row3 w b off p.es) (hL : 0 < p.es.length) :
    Calls Try.prog 22 #[pv p (.slice (some ⟨b, off, none⟩) p.es.length cap)] w fun e w' => e = .returned (.int .i64 (M.free p)) ∧ Bel w w' := by
  obtain ⟨lsn, kind, level, right, high, es⟩ := p
  obtain ⟨h1, h2, h3⟩ := hs
  simp only at hv hL h1 h2 h3 ⊢
  have hbw := hv.lt hL
  have zh : (M.bs high).size = high.length := M.bs_size high
  go_enter Try.func22, Try.ntmps22
  go_wp2_with fail
  go_loopw [3, 13] (fun fv i wr => ∃ k : Nat, k ≤ es.length ∧ i = .int .i64 k ∧ fv = .int .i64 (489 - (high.length : Int) - (M.szs (es.take k) : Int)) ∧ Bel w wr) (fun _ i _ => es.length - (intOf i).toNat)
  case atStart => exact ⟨0, Nat.zero_le _, rfl, by simp [M.szs], Bel.al (Below.refl _ _) _⟩
  case round =>
    obtain ⟨k, hk, rfl, rfl, hb⟩ := hrel
    by_cases hlt : k < es.length
    · obtain ⟨c1, c2, c3⟩ := (hv.below hb hbw) k hlt
      have he := h3 es[k] (List.getElem_mem hlt)
      have HT : Hid (M.szs (es.take (k + 1)) = M.szs (es.take k) + M.szE es[k]) := by show _ = _; rw [List.take_succ_eq_append_getElem hlt, M.szs_snoc]
      have hsz : M.szs (es.take k) ≤ 2003000 := by
        have := szs_le (es.take k) (fun e he => h3 e (List.mem_of_mem_take he))
        rw [List.length_take] at this
        have : min k es.length * 2003 ≤ 1000 * 2003 := Nat.mul_le_mul_right _ (by omega)
        omega
      clear h3 hv
      generalize es[k] = v at *
      obtain ⟨kk, vv, mm⟩ := v
      simp only at he c1 c2 c3
      have hze : M.szE (kk, vv, mm) ≤ 2003 := by simp only [M.szE]; omega
      have H := fun W => size_any kk vv mm W (by omega) (by omega)
      generalize M.szs (es.take k) = S at *
      generalize M.szE (kk, vv, mm) = Z at *
      go_wp2_with fail
      refine (H _).mono ?_
      rintro e w1 ⟨rfl, b1⟩
      go_wp2_with fail
      go_roundw
      case rel => exact ⟨k + 1, by omega, by go_num, by rw [HT.out]; go_num, (hb.al _).tr b1⟩
      case measure => simp [intOf]; omega
    · have HF : Hid (M.szs (es.take k) = M.szs es) := by show _ = _; rw [List.take_of_length_le (by omega)]
      go_wp2_with fail
      go_ret
      exact ⟨by rw [HF.out]; rfl, hb⟩
theorem free_nil (p : M.Pg) (a : Option Addr) (cap : Nat) (w : World) (hs : Sm p) (h0 : p.es = []) :
    Calls Try.prog 22 #[pv p (.slice a 0 cap)] w fun e w' => e = .returned (.int .i64 (M.free p)) ∧ Bel w w' := by
  obtain ⟨lsn, kind, level, right, high, es⟩ := p
  obtain ⟨h1, h2, h3⟩ := hs
  simp only at h0 h1 ⊢
  subst h0
  have zh : (M.bs high).size = high.length := M.bs_size high
  have HE : Hid (M.free ⟨lsn, kind, level, right, high, []⟩ = 489 - (high.length : Int)) := by show _ = _; simp [M.free, M.szs]
  go_enter Try.func22, Try.ntmps22
  go_wp2_with fail
  refine wp_loop_rounds 1 ?_
  rw [rounds_succ]
  go_wp2_with fail
  go_ret
  exact ⟨by rw [HE.out]; rfl, Bel.al (Below.refl _ _) _⟩
theorem free_any (p : M.Pg) (x : Value) (w : World) (hs : Sm p) (hv : Vals w x p.es) :
    Calls Try.prog 22 #[pv p x] w fun e w' => e = .returned (.int .i64 (M.free p)) ∧ Bel w w' := by
  obtain ⟨a, cap, rfl, hv⟩ := hv
  by_cases h0 : p.es = []
  · rw [show p.es.length = 0 by rw [h0]; rfl]; exact free_nil p a cap w hs h0
  · obtain ⟨b, off, rfl, hr⟩ := hv.resolve_left h0
    refine free_some p b off cap w hs hr ?_
    have : p.es.length ≠ 0 := fun h => h0 (List.length_eq_zero_iff.1 h)
    omega

theorem covers_any (p : M.Pg) (x : Value) (k : List UInt8) (a : Option Addr) (n c : Nat) (hx : x = .slice a n c) (w : World) : Calls Try.prog 21 #[pv p x, .string (M.bs k)] w fun e w' => e = .returned (.bool (M.cov p.high k)) ∧ Bel w w' := by
  subst hx
  obtain ⟨lsn, kind, level, right, high, es⟩ := p
  have h2 : (M.bs k).toList = k := M.bs_toList _
  cases high with
  | nil =>
    have h1 : (M.bs []).toList = [] := M.bs_toList _
    go_enter Try.func21, Try.ntmps21
    go_wp2
    go_ret
    exact ⟨rfl, Bel.al (Below.refl _ _) _⟩
  | cons b high =>
    have h1 : (M.bs (b :: high)).toList = b :: high := M.bs_toList _
    go_enter Try.func21, Try.ntmps21
    go_wp2
    go_ret
    exact ⟨rfl, Bel.al (Below.refl _ _) _⟩
end Go.Proofs.Ytcmplklefeicbaa
