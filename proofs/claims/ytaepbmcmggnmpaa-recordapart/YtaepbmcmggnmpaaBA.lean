/-
  What a record is; the contracts of record's between, isKind, inBounds, walked.
-/
import Derived.Test.YtaepbmcmggnmpaaU
namespace Go.Proofs.Ytaepbmcmggnmpaa
open Go.RowKit
set_option maxRecDepth 100000
namespace M
abbrev Ch := Int × List Pc
structure Rec where
  lsn : Int
  txn : Int
  kind : Int
  undo : List UInt8
  undone : Int
  pages : List Ch
def btw (a n b : Int) : Bool := decide (a ≤ n) && decide (n ≤ b)
def badC (c : Ch) : Bool := !(btw 0 c.1 65535) || !(right c.2)
def inB (r : Rec) : Bool := btw 0 r.lsn 281474976710655 && btw 0 r.txn 281474976710655 && btw 1 r.kind 4 && decide (r.undo.length ≤ 65535) && btw 0 r.undone 65535 && decide (r.pages.length ≤ 255) && !(r.pages.any badC)
theorem apply_code (L : List Pc) : (apply [] L).2 = 1 ↔ right L = false := by
  unfold apply
  by_cases h : right L = true
  · rw [if_pos h, h]
    have : (applyF [] L).2 ≠ 1 := by
      have : ∀ (L : List Pc) (s : List UInt8), (applyF s L).2 ≠ 1 := by
        intro L
        induction L with
        | nil => intro s; simp [applyF]
        | cons p L ih =>
          intro s
          unfold applyF
          split
          · simp
          · exact ih _
      exact this L []
    simp [this]
  · rw [if_neg h]
    simp [Bool.not_eq_true] at h
    simp [h]
end M
/-- A record as a value, its pages in x. -/
abbrev rv (r : M.Rec) (x : Value) : Value := .agg #[.int .i64 r.lsn, .int .i64 r.txn, .int .i64 r.kind, .string (M.bs r.undo), .int .i64 r.undone, x]
/-- The cells from ⟨b, off⟩ on hold the pages of L, two cells each. -/
def RowC (w : World) (b off : Nat) (L : List M.Ch) : Prop := ∀ j (h : j < L.length), ∃ x,
  w.cell? ⟨b, off + j * 2, none⟩ = some (.int .i64 L[j].1) ∧ w.cell? ⟨b, off + j * 2 + 1, none⟩ = some x ∧ Vals w x L[j].2
theorem RowC.lt {w : World} {b off : Nat} {L : List M.Ch} (h : RowC w b off L) (hL : 0 < L.length) : b < w.heap.size := by
  obtain ⟨x, h1, _⟩ := h 0 hL
  exact block_lt_of_cell h1
theorem RowC.bel {w w' : World} {b off : Nat} {L : List M.Ch} (h : RowC w b off L) (hb : Bel w w') : RowC w' b off L := fun j hj => by
  obtain ⟨x, h1, h2, h3⟩ := h j hj
  have hB := block_lt_of_cell h1
  exact ⟨x, (hb.cell (p := ⟨b, off + j * 2, none⟩) hB).trans h1, (hb.cell (p := ⟨b, off + j * 2 + 1, none⟩) hB).trans h2, h3.bel hb⟩
def ValC (w : World) (x : Value) (L : List M.Ch) : Prop := ∃ a cap, x = .slice a L.length cap ∧ (L = [] ∨ ∃ b off, a = some ⟨b, off, none⟩ ∧ RowC w b off L)
theorem ValC.bel {w w' : World} {x : Value} {L : List M.Ch} (h : ValC w x L) (hb : Bel w w') : ValC w' x L := by
  obtain ⟨a, cap, hx, h | ⟨b, off, ha, hr⟩⟩ := h
  · exact ⟨a, cap, hx, .inl h⟩
  · exact ⟨a, cap, hx, .inr ⟨b, off, ha, hr.bel hb⟩⟩
/-- Small enough to be walked over. -/
structure SmR (r : M.Rec) : Prop where
  undo : r.undo.length ≤ 100000
  pages : r.pages.length ≤ 5000
  each : ∀ c ∈ r.pages, c.2.length ≤ 5000 ∧ ∀ p ∈ c.2, p.2.length ≤ 17000
theorem between_any (a n b : Int) (w : World) : Calls Try.prog 42 #[.int .i64 a, .int .i64 n, .int .i64 b] w fun e w' => e = .returned (.bool (M.btw a n b)) ∧ w = w' := by
  by_cases h1 : a ≤ n
  · by_cases h2 : n ≤ b
    · have HE : Hid (M.btw a n b = true) := by show _ = _; simp [M.btw, h1, h2]
      go_enter Try.func42, Try.ntmps42
      go_wp2
      go_ret
      exact ⟨by rw [HE.out]; rfl, rfl⟩
    · have HE : Hid (M.btw a n b = false) := by show _ = _; simp only [M.btw, decide_eq_false h2, Bool.and_false]
      have h2' : b < n := by omega
      go_enter Try.func42, Try.ntmps42
      go_wp2
      go_ret
      exact ⟨by rw [HE.out]; rfl, rfl⟩
  · have HE : Hid (M.btw a n b = false) := by show _ = _; simp only [M.btw, decide_eq_false h1, Bool.false_and]
    go_enter Try.func42, Try.ntmps42
    go_wp2
    go_ret
    exact ⟨by rw [HE.out]; rfl, rfl⟩
theorem isKind_any (n : Int) (w : World) : Calls Try.prog 34 #[.int .i64 n] w fun e w' => e = .returned (.bool (M.btw 1 n 4)) ∧ w = w' := by
  have H := fun W => between_any 1 n 4 W
  generalize M.btw 1 n 4 = x at *
  go_enter Try.func34, Try.ntmps34
  go_wp2_with fail
  refine (H _).mono ?_
  rintro e w1 ⟨rfl, rfl⟩
  go_wp2_with fail
  go_ret
  exact ⟨rfl, rfl⟩
set_option maxHeartbeats 1000000 in
theorem badC_any (n : Int) (L : List M.Pc) (x : Value) (w : World) (hv : Vals w x L) (hL : L.length ≤ 5000) (hs : ∀ p ∈ L, p.2.length ≤ 17000) :
    Calls Try.prog 40 #[.agg #[.int .i64 n, x]] w fun e w' => e = .returned (.bool (M.badC (n, L))) ∧ Bel w w' := by
  have H1 := fun W h => apply_any [] L x W h (by omega) (fun p hp => by have := hs p hp; omega) (by simp)
  have H2 := fun W => between_any 0 n 65535 W
  have hc := M.apply_code L
  have HE : Hid (M.badC (n, L) = (!(M.btw 0 n 65535) || !(M.right L))) := rfl
  obtain ⟨a, cap, rfl, _⟩ := id hv
  generalize M.btw 0 n 65535 = x1 at *
  generalize M.bs (M.apply [] L).1 = t at *
  generalize (M.apply [] L).2 = c at *
  generalize M.right L = x2 at *
  have hq : ((c : Int) == 1) = !x2 := by
    cases x2
    · have := hc.2 rfl; subst this; rfl
    · have : ¬ c = 1 := fun h => by have := hc.1 h; cases this
      show _ = false
      rw [beq_eq_false_iff_ne]; omega
  clear hc
  cases x1
  · go_enter Try.func40, Try.ntmps40
    go_wp2_with fail
    refine (H1 _ (hv.bel (Bel.al (Below.refl _ _) _))).mono ?_
    rintro e w1 ⟨rfl, b1⟩
    have hcl := bel_cell b1 (g := w.heap.size) (by simp)
    go_wp2_with fail
    refine (H2 _).mono ?_
    rintro e w2 ⟨rfl, rfl⟩
    go_wp2_with fail
    go_ret
    exact ⟨by rw [HE.out]; rfl, Bel.tr (Bel.al (Below.refl _ _) _) b1⟩
  · go_enter Try.func40, Try.ntmps40
    go_wp2_with fail
    refine (H1 _ (hv.bel (Bel.al (Below.refl _ _) _))).mono ?_
    rintro e w1 ⟨rfl, b1⟩
    have hcl := bel_cell b1 (g := w.heap.size) (by simp)
    go_wp2_with fail
    refine (H2 _).mono ?_
    rintro e w2 ⟨rfl, rfl⟩
    go_wp2_with fail
    go_ret
    exact ⟨by rw [HE.out]; rfl, Bel.tr (Bel.al (Below.refl _ _) _) b1⟩
set_option maxHeartbeats 1000000 in
theorem indexC_some (L : List M.Ch) (b off cap : Nat) (w : World) (hv : RowC w b off L) (h3 : ∀ c ∈ L, c.2.length ≤ 5000 ∧ ∀ p ∈ c.2, p.2.length ≤ 17000) (hL2 : L.length ≤ 5000) :
    Calls Try.prog 52 #[.slice (some ⟨b, off, none⟩) L.length cap, .func (.func 40) #[] #[]] w fun e w' => (∃ n : Int, e = .returned (.int .i64 n) ∧ (0 ≤ n ↔ L.any M.badC = true)) ∧ Bel w w' := by
  go_enter Try.func52, Try.ntmps52
  go_wp2_with fail
  go_loopw [8] (fun i wr => ∃ k : Nat, k ≤ L.length ∧ i = .int .i64 k ∧ (L.take k).any M.badC = false ∧ Bel w wr) (fun i _ => L.length - (intOf i).toNat)
  case atStart => exact ⟨0, Nat.zero_le _, rfl, rfl, Below.refl _ _⟩
  case round =>
    obtain ⟨k, hk, rfl, hno, hb⟩ := hrel
    by_cases hlt : k < L.length
    · obtain ⟨x, c1, c2, c3⟩ := (hv.bel hb) k hlt
      have he := h3 L[k] (List.getElem_mem hlt)
      have HY : Hid (M.badC L[k] = true → L.any M.badC = true) := fun h => List.any_eq_true.2 ⟨_, List.getElem_mem hlt, h⟩
      have HN : Hid (M.badC L[k] = false → (L.take (k + 1)).any M.badC = false) := fun h => by rw [List.take_succ_eq_append_getElem hlt, List.any_append, hno]; simp [h]
      clear h3 hv hno
      generalize L[k] = v at *
      obtain ⟨pn, pl⟩ := v
      simp only at he c1 c2 c3
      have H := badC_any pn pl x wr c3 he.1 he.2
      by_cases hl : M.badC (pn, pl) = true
      · rw [hl] at H
        have HF := hid (HY.out hl)
        clear hl HY HN
        go_wp2_with fail
        refine H.mono ?_
        rintro e w1 ⟨rfl, b1⟩
        go_wp2_with fail
        go_ret
        exact ⟨⟨(k : Int), rfl, ⟨fun _ => HF.out, fun _ => by omega⟩⟩, hb.tr b1⟩
      · rw [Bool.not_eq_true] at hl
        rw [hl] at H
        have HF := hid (HN.out hl)
        clear hl HY HN
        go_wp2_with fail
        refine H.mono ?_
        rintro e w1 ⟨rfl, b1⟩
        go_wp2_with fail
        go_roundw
        case rel => exact ⟨k + 1, by omega, by go_num, HF.out, hb.tr b1⟩
        case measure => simp [intOf]; omega
    · have HF : Hid (L.any M.badC = false) := by show _ = _; rw [List.take_of_length_le (by omega)] at hno; exact hno
      clear hno
      go_wp2_with fail
      go_ret
      exact ⟨⟨-1, rfl, ⟨fun h => by omega, fun h => by rw [HF.out] at h; cases h⟩⟩, hb⟩
theorem indexC_nil (a : Option Addr) (cap : Nat) (w : World) :
    Calls Try.prog 52 #[.slice a 0 cap, .func (.func 40) #[] #[]] w fun e w' => (∃ n : Int, e = .returned (.int .i64 n) ∧ (0 ≤ n ↔ ([] : List M.Ch).any M.badC = true)) ∧ Bel w w' := by
  go_enter Try.func52, Try.ntmps52
  go_wp2_with fail
  refine wp_loop_rounds 1 ?_
  rw [rounds_succ]
  go_wp2_with fail
  go_ret
  exact ⟨⟨-1, rfl, by simp⟩, Below.refl _ _⟩
theorem containsC_any (L : List M.Ch) (x : Value) (w : World) (hv : ValC w x L) (h3 : ∀ c ∈ L, c.2.length ≤ 5000 ∧ ∀ p ∈ c.2, p.2.length ≤ 17000) (hL2 : L.length ≤ 5000) :
    Calls Try.prog 43 #[x, .func (.func 40) #[] #[]] w fun e w' => e = .returned (.bool (L.any M.badC)) ∧ Bel w w' := by
  have H : Calls Try.prog 52 #[x, .func (.func 40) #[] #[]] w fun e w' => (∃ n : Int, e = .returned (.int .i64 n) ∧ (0 ≤ n ↔ L.any M.badC = true)) ∧ Bel w w' := by
    obtain ⟨a, cap, rfl, hv⟩ := hv
    by_cases h0 : L = []
    · subst h0; exact indexC_nil a cap w
    · obtain ⟨b, off, rfl, hr⟩ := hv.resolve_left h0
      exact indexC_some L b off cap w hr h3 hL2
  clear hv h3
  go_enter Try.func43, Try.ntmps43
  go_wp2_with fail
  refine H.mono ?_
  rintro e w1 ⟨⟨n, rfl, hn⟩, b1⟩
  have HN : Hid (decide ((0 : Int) ≤ n) = L.any M.badC) := by
    show _ = _
    rw [Bool.eq_iff_iff, decide_eq_true_eq]; exact hn
  clear hn
  go_wp2_with fail
  go_ret
  exact ⟨by rw [← HN.out]; rfl, b1⟩
set_option maxHeartbeats 4000000 in
theorem inBounds_any (r : M.Rec) (x : Value) (w : World) (hs : SmR r) (hv : ValC w x r.pages) :
    Calls Try.prog 18 #[rv r x] w fun e w' => e = .returned (.bool (M.inB r)) ∧ Bel w w' := by
  have Hc := fun W hv => containsC_any r.pages x W hv hs.each hs.pages
  have HB : Hid (M.inB r = (M.btw 0 r.lsn 281474976710655 && M.btw 0 r.txn 281474976710655 && M.btw 1 r.kind 4 && decide (r.undo.length ≤ 65535) && M.btw 0 r.undone 65535 && decide (r.pages.length ≤ 255) && !(r.pages.any M.badC))) := rfl
  have hu := hs.undo
  have hp := hs.pages
  obtain ⟨lsn, txn, kind, undo, undone, pages⟩ := r
  simp only at Hc HB hu hp hv ⊢
  obtain ⟨a0, cap0, rfl, _⟩ := id hv
  have zu : (M.bs undo).size = undo.length := M.bs_size undo
  have K1 := fun W => between_any 0 lsn 281474976710655 W
  have K2 := fun W => between_any 0 txn 281474976710655 W
  have K3 := fun W => isKind_any kind W
  have K5 := fun W => between_any 0 undone 65535 W
  have hd : decide ((undo.length : Int) ≤ 65535) = decide (undo.length ≤ 65535) := by rw [decide_eq_decide]; omega
  have hd2 : decide ((pages.length : Int) ≤ 255) = decide (pages.length ≤ 255) := by rw [decide_eq_decide]; omega
  generalize M.btw 0 lsn 281474976710655 = x1 at *
  generalize M.btw 0 txn 281474976710655 = x2 at *
  generalize M.btw 1 kind 4 = x3 at *
  generalize decide (undo.length ≤ 65535) = x4 at *
  generalize M.btw 0 undone 65535 = x5 at *
  generalize decide (pages.length ≤ 255) = x6 at *
  generalize pages.any M.badC = x7 at *
  cases x1
  · go_enter Try.func18, Try.ntmps18
    go_wp2_with fail
    refine (K1 _).mono ?_
    rintro e w1 ⟨rfl, rfl⟩
    go_wp2_with fail
    go_ret
    exact ⟨by rw [HB.out]; rfl, Bel.al (Below.refl _ _) _⟩
  · skip
    cases x2
    · go_enter Try.func18, Try.ntmps18
      go_wp2_with fail
      refine (K1 _).mono ?_
      rintro e w1 ⟨rfl, rfl⟩
      go_wp2_with fail
      refine (K2 _).mono ?_
      rintro e w1 ⟨rfl, rfl⟩
      go_wp2_with fail
      go_ret
      exact ⟨by rw [HB.out]; rfl, Bel.al (Below.refl _ _) _⟩
    · skip
      cases x3
      · go_enter Try.func18, Try.ntmps18
        go_wp2_with fail
        refine (K1 _).mono ?_
        rintro e w1 ⟨rfl, rfl⟩
        go_wp2_with fail
        refine (K2 _).mono ?_
        rintro e w1 ⟨rfl, rfl⟩
        go_wp2_with fail
        refine (K3 _).mono ?_
        rintro e w1 ⟨rfl, rfl⟩
        go_wp2_with fail
        go_ret
        exact ⟨by rw [HB.out]; rfl, Bel.al (Below.refl _ _) _⟩
      · skip
        cases x4
        · go_enter Try.func18, Try.ntmps18
          go_wp2_with fail
          refine (K1 _).mono ?_
          rintro e w1 ⟨rfl, rfl⟩
          go_wp2_with fail
          refine (K2 _).mono ?_
          rintro e w1 ⟨rfl, rfl⟩
          go_wp2_with fail
          refine (K3 _).mono ?_
          rintro e w1 ⟨rfl, rfl⟩
          go_wp2_with fail
          go_ret
          exact ⟨by rw [HB.out]; rfl, Bel.al (Below.refl _ _) _⟩
        · skip
          cases x5
          · go_enter Try.func18, Try.ntmps18
            go_wp2_with fail
            refine (K1 _).mono ?_
            rintro e w1 ⟨rfl, rfl⟩
            go_wp2_with fail
            refine (K2 _).mono ?_
            rintro e w1 ⟨rfl, rfl⟩
            go_wp2_with fail
            refine (K3 _).mono ?_
            rintro e w1 ⟨rfl, rfl⟩
            go_wp2_with fail
            refine (K5 _).mono ?_
            rintro e w1 ⟨rfl, rfl⟩
            go_wp2_with fail
            go_ret
            exact ⟨by rw [HB.out]; rfl, Bel.al (Below.refl _ _) _⟩
          · skip
            cases x6
            · go_enter Try.func18, Try.ntmps18
              go_wp2_with fail
              refine (K1 _).mono ?_
              rintro e w1 ⟨rfl, rfl⟩
              go_wp2_with fail
              refine (K2 _).mono ?_
              rintro e w1 ⟨rfl, rfl⟩
              go_wp2_with fail
              refine (K3 _).mono ?_
              rintro e w1 ⟨rfl, rfl⟩
              go_wp2_with fail
              refine (K5 _).mono ?_
              rintro e w1 ⟨rfl, rfl⟩
              go_wp2_with fail
              go_ret
              exact ⟨by rw [HB.out]; rfl, Bel.al (Below.refl _ _) _⟩
            · skip
              cases x7
              all_goals
                go_enter Try.func18, Try.ntmps18
                go_wp2_with fail
                refine (K1 _).mono ?_
                rintro e w1 ⟨rfl, rfl⟩
                go_wp2_with fail
                refine (K2 _).mono ?_
                rintro e w1 ⟨rfl, rfl⟩
                go_wp2_with fail
                refine (K3 _).mono ?_
                rintro e w1 ⟨rfl, rfl⟩
                go_wp2_with fail
                refine (K5 _).mono ?_
                rintro e w1 ⟨rfl, rfl⟩
                go_wp2_with fail
                refine (Hc _ (hv.bel (Bel.al (Below.refl _ _) _))).mono ?_
                rintro e w1 ⟨rfl, b1⟩
                go_wp2_with fail
                go_ret
                exact ⟨by rw [HB.out]; rfl, Bel.tr (Bel.al (Below.refl _ _) _) b1⟩
end Go.Proofs.Ytaepbmcmggnmpaa
