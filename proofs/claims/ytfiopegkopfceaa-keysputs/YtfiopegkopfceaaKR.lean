/-
  The contracts of concordanceref01.One and Put, walked.
-/
import Derived.Test.YtfiopegkopfceaaKA
import Derived.Test.YtfiopegkopfceaaKN
namespace Go.Proofs.Ytfiopegkopfceaa
open Go.RowKit

/-- What 'One' answers. -/
def oneP (v : M.V) : List UInt8 × Nat := if M.chk v = 0 then (M.one v, 0) else ([], M.chk v)
abbrev RefOne (t : ByteArray) (n : Int) (b : Bool) (w : World) : Prop :=
  Calls Try.prog 26 #[.agg #[.string t, .int .i64 n, .bool b]] w fun e w' => e = .returned (.tuple #[.string (M.bs (oneP (t.data.toList, n, b)).1), .int .i64 ((oneP (t.data.toList, n, b)).2 : Int)]) ∧ Bel w w'
theorem oneP_bad (v : M.V) (E : Nat) (h : M.chk v = E) (hE : E ≠ 0) : oneP v = ([], E) := by unfold oneP; rw [if_neg (by omega), h]
theorem oneP_good (v : M.V) (h : M.chk v = 0) : oneP v = (M.one v, 0) := by unfold oneP; rw [if_pos h]

set_option maxHeartbeats 1000000 in
/-- What is no value. -/
theorem refOne_bad (t : ByteArray) (n : Int) (b : Bool) (w : World) (ht : t.size ≤ maxLen) (h0 : M.chk (t.data.toList, n, b) ≠ 0) : RefOne t n b w := by
  unfold maxLen at ht
  have hl : Hid (t.size = t.data.toList.length) := Lib.size_eq t
  cases b
  · have HC : Hid (oneP (t.data.toList, n, false) = ([], 1)) := by
      refine oneP_bad _ 1 ?_ (by decide)
      unfold M.chk at h0 ⊢
      rw [if_neg (by simp)] at h0 ⊢
      split at h0
      · rename_i h; rw [if_pos h]
      · exact absurd rfl h0
    by_cases h1 : t.data.toList = []
    · have q : t.toList = [] := by rw [Lib.toList_data]; exact h1
      have h2 : n < -1099511627776 ∨ 1099511627776 < n := by
        unfold M.chk at h0
        rw [if_neg (by simp)] at h0
        split at h0
        · rename_i h; rcases h with h | h
          · exact absurd h1 h
          · exact h
        · exact absurd rfl h0
      clear h1 h0
      rcases h2 with h2 | h2
      · go_enter Try.func26, Try.ntmps26
        go_wp2
        go_ret2
        exact ⟨by rw [HC.out]; rfl, Bel.al (Below.refl _ _) _⟩
      · have h3 : ¬ n < -1099511627776 := by omega
        go_enter Try.func26, Try.ntmps26
        go_wp2
        go_ret2
        exact ⟨by rw [HC.out]; rfl, Bel.al (Below.refl _ _) _⟩
    · have q1 : t.toList.isEmpty = false := by rw [Lib.toList_data]; simpa using h1
      have q2 : ¬ t.toList = [] := by rw [Lib.toList_data]; exact h1
      clear h1 h0
      go_enter Try.func26, Try.ntmps26
      go_wp2
      go_ret2
      exact ⟨by rw [HC.out]; rfl, Bel.al (Below.refl _ _) _⟩
  · by_cases h1 : 20 < t.size
    · have HC : Hid (oneP (t.data.toList, n, true) = ([], 6)) := by
        refine oneP_bad _ 6 ?_ (by decide)
        unfold M.chk; rw [if_pos rfl, if_pos (by rw [← hl.out]; exact h1)]
      clear h0
      go_enter Try.func26, Try.ntmps26
      go_wp2
      go_ret2
      exact ⟨by rw [HC.out]; rfl, Bel.al (Below.refl _ _) _⟩
    · have h2 : n ≠ 0 := by
        intro e; apply h0
        unfold M.chk; rw [if_pos rfl, if_neg (by rw [← hl.out]; exact h1), if_neg (by simpa using e)]
      have HC : Hid (oneP (t.data.toList, n, true) = ([], 1)) := by
        refine oneP_bad _ 1 ?_ (by decide)
        unfold M.chk; rw [if_pos rfl, if_neg (by rw [← hl.out]; exact h1), if_pos (by simpa using h2)]
      have q : (n != 0) = true := by simp [h2]
      clear h2 h0
      go_enter Try.func26, Try.ntmps26
      go_wp2
      go_ret2
      exact ⟨by rw [HC.out]; rfl, Bel.al (Below.refl _ _) _⟩

set_option maxHeartbeats 1000000 in
theorem refOne_number (t : ByteArray) (n : Int) (w : World) (h0 : M.chk (t.data.toList, n, false) = 0) : RefOne t n false w := by
  have h1 := M.chk_number h0
  have ht : t.data.toList = [] := by
    unfold M.chk at h0
    rw [if_neg (by simp)] at h0
    split at h0
    · omega
    · rename_i hh; simp only [not_or, ne_eq, Decidable.not_not] at hh; exact hh.1
  have q : t.toList = [] := by rw [Lib.toList_data]; exact ht
  obtain ⟨X, hX⟩ : ∃ X : Nat, n + 1099511627776 = (X : Int) := ⟨(n + 1099511627776).toNat, by omega⟩
  have HC : Hid (oneP (t.data.toList, n, false) = (16 :: M.putL 6 X, 0)) := by
    show _ = _
    rw [oneP_good _ h0]
    have e : M.one (t.data.toList, n, false) = 16 :: M.putL 6 (n + 1099511627776).toNat := rfl
    rw [e, hX]; rfl
  clear ht h0
  have k1 := conv1
  have k2 := conv1d
  go_enter Try.func26, Try.ntmps26
  go_wp2
  go_loopw [4, 5, 6] (fun sv nv i wr => ∃ k : Nat, k ≤ 6 ∧ i = .int .i64 k ∧ nv = .int .i64 ((X / 256 ^ k : Nat) : Int) ∧ sv = .string (M.bs (M.putL k X)) ∧ Bel w wr) (fun _ _ i _ => 6 - (intOf i).toNat)
  case atStart => exact ⟨0, by omega, rfl, by rw [Nat.pow_zero, Nat.div_one, ← hX], rfl, Bel.al (Below.refl _ _) _⟩
  case round =>
    obtain ⟨k, hk, rfl, rfl, rfl, hb⟩ := hrel
    have hN : X / 256 ^ k ≤ X := Nat.div_le_self _ _
    have hlen : (M.bs (M.putL k X)).size = k := by rw [M.bs_size, M.putL_length]
    by_cases hlt : k < 6
    · have HS : Hid (M.putL (k + 1) X = UInt8.ofNat (X / 256 ^ k) :: M.putL k X) := M.putL_succ k X
      have HN : Hid (X / 256 ^ (k + 1) = X / 256 ^ k / 256) := by show _ = _; rw [Nat.pow_succ, Nat.div_div_eq_div_mul]
      generalize X / 256 ^ k = N at *
      generalize M.putL k X = l at *
      have e1 : ((N : Int)).tmod 256 = ((N % 256 : Nat) : Int) := rfl
      have e2 : ((N : Int)).tdiv 256 = ((N / 256 : Nat) : Int) := rfl
      have e3 : (M.bs [UInt8.ofNat (N % 256)]).size = 1 := by rw [M.bs_size]; rfl
      go_wp2
      refine ⟨⟨k + 1, by omega, by go_num, by rw [HN.out]; rfl, by rw [HS.out, M.bs_append, M.ofNat_mod]; rfl, Bel.al hb _⟩, ?_⟩
      simp [intOf]; omega
    · obtain rfl : k = 6 := by omega
      have HF : Hid (M.bs (M.putL 6 X) = M.bs (M.putL 6 X)) := rfl
      generalize M.putL 6 X = l at *
      have e4 : (⟨#[16]⟩ : ByteArray) = M.bs [16] := rfl
      have e5 : (M.bs [16]).size = 1 := by rw [M.bs_size]; rfl
      go_wp2
      go_ret2
      exact ⟨by rw [HC.out, M.bs_append]; rfl, hb⟩

set_option maxHeartbeats 1000000 in
theorem refOne_text (t : ByteArray) (n : Int) (w : World) (h0 : M.chk (t.data.toList, n, true) = 0) : RefOne t n true w := by
  have hl : Hid (t.size = t.data.toList.length) := Lib.size_eq t
  have ht : t.size ≤ 20 := by rw [hl.out]; exact M.chk_text h0
  have hn : n = 0 := by
    unfold M.chk at h0
    rw [if_pos rfl] at h0
    simp only at h0
    split at h0
    · omega
    · split at h0
      · omega
      · rename_i hh; simpa using hh
  subst hn
  have HC : Hid (oneP (t.data.toList, 0, true) = (32 :: (M.esc t.data.toList ++ [0, 1]), 0)) := by
    show _ = _
    rw [oneP_good _ h0]; rfl
  clear h0
  go_enter Try.func26, Try.ntmps26
  go_wp2
  go_loopw [4, 7] (fun sv i wr => ∃ k : Nat, k ≤ t.size ∧ i = .int .i64 k ∧ sv = .string (M.bs (M.esc (t.data.toList.take k))) ∧ Bel (w.alloc (.cells #[.string t, .int .i64 0, .bool true] 40)) wr) (fun _ i _ => t.size - (intOf i).toNat)
  case atStart => exact ⟨0, by omega, rfl, rfl, Below.refl _ _⟩
  case round =>
    obtain ⟨k, hk, rfl, rfl, hb⟩ := hrel
    obtain ⟨⟨d0, d1, d2⟩, _, bz⟩ := box3 hb
    have hlen : (M.bs (M.esc (t.data.toList.take k))).size ≤ 40 := by
      have := M.esc_length (t.data.toList.take k)
      have := List.length_take_le k t.data.toList
      rw [M.bs_size]; omega
    have HB : Hid (Bel w wr) := Bel.tr (Bel.al (Below.refl _ _) _) hb
    by_cases hlt : k < t.size
    · have hx : t.extract k (k + 1) = M.bs [t[k]] := by
        rw [M.extract_bs, M.drop_at t k hlt, show k + 1 - k = 1 by omega]; rfl
      have e5 : (M.bs [t[k]]).size = 1 := by rw [M.bs_size]; rfl
      have p1 : (0 : Int) ≤ (k : Int) := by omega
      have p3 : (k : Int) < (t.size : Int) := by omega
      have HS : Hid (M.esc (t.data.toList.take (k + 1)) = M.esc (t.data.toList.take k) ++ M.esc [t[k]]) := by
        show _ = _; rw [M.take_snoc t k hlt, M.esc_append]
      generalize M.esc (t.data.toList.take k) = E at *
      by_cases hz : t[k] = 0
      · have q : ((t[k].toNat : Int) == 0) = true := by rw [hz]; rfl
        have HE : Hid (M.esc (t.data.toList.take (k + 1)) = E ++ [t[k]] ++ [255]) := by show _ = _; rw [HS.out]; simp [M.esc, hz]
        clear hz
        go_wp2
        refine ⟨⟨k + 1, by omega, by go_num, by rw [HE.out, ← M.bs_append, ← M.bs_append]; rfl, hb⟩, ?_⟩
        simp [intOf]; omega
      · have q : ((t[k].toNat : Int) == 0) = false := by
          rw [beq_eq_false_iff_ne]; intro e; apply hz; apply UInt8.toNat_inj.1; simpa using e
        have HE : Hid (M.esc (t.data.toList.take (k + 1)) = E ++ [t[k]]) := by show _ = _; rw [HS.out]; simp [M.esc, hz]
        clear hz
        go_wp2
        refine ⟨⟨k + 1, by omega, by go_num, by rw [HE.out, ← M.bs_append], hb⟩, ?_⟩
        simp [intOf]; omega
    · have HT : Hid (t.data.toList.take k = t.data.toList) := List.take_of_length_le (by rw [← hl.out]; omega)
      go_wp2
      go_ret2
      refine ⟨?_, HB.out⟩
      rw [HC.out, HT.out]
      have e : (⟨#[32]⟩ : ByteArray) ++ M.bs (M.esc t.data.toList) ++ ⟨#[0, 1]⟩ = M.bs (32 :: (M.esc t.data.toList ++ [0, 1])) := by
        show M.bs [32] ++ M.bs _ ++ M.bs [0, 1] = _
        rw [M.bs_append, M.bs_append]; rfl
      exact congrArg (fun x => Ending.returned (.tuple #[.string x, .int .i64 0])) e

theorem refOne_any (t : ByteArray) (n : Int) (b : Bool) (w : World) (ht : t.size ≤ maxLen) : RefOne t n b w := by
  by_cases h0 : M.chk (t.data.toList, n, b) = 0
  · cases b
    · exact refOne_number t n w h0
    · exact refOne_text t n w h0
  · exact refOne_bad t n b w ht h0

set_option maxHeartbeats 1000000 in
theorem refPut_any (L : List M.V) (x : Value) (w : World) (hv : Vals w x L) (hL : L.length ≤ 100) (hs : ∀ v ∈ L, v.1.length ≤ 50) :
    Calls Try.prog 13 #[x] w fun e w' => e = .returned (.tuple #[.string (M.bs (M.put L).1), .int .i64 ((M.put L).2 : Int)]) ∧ Bel w w' := by
  obtain ⟨a0, c0, rfl, r0⟩ := hv
  go_enter Try.func13, Try.ntmps13
  go_wp2_with fail
  go_loopw [4, 5] (fun sv i wr => ∃ k : Nat, k ≤ L.length ∧ i = .int .i64 k ∧ sv = .string (M.bs (M.keyOf (L.take k))) ∧ M.errOf (L.take k) = 0 ∧ Bel w wr) (fun _ i _ => L.length - (intOf i).toNat)
  case atStart => exact ⟨0, Nat.zero_le _, rfl, rfl, rfl, Below.refl _ _⟩
  case round =>
    obtain ⟨k, hk, rfl, rfl, herr, hb⟩ := hrel
    by_cases hlt : k < L.length
    · obtain ⟨g0, o0, ha0, row0⟩ := r0.resolve_left (fun h => by rw [h] at hlt; simp at hlt)
      subst ha0
      obtain ⟨d0, d1, d2⟩ := (row0.below hb (row0.lt (by omega))) k hlt
      have HL : Hid (L.take (k + 1) = L.take k ++ [L[k]]) := List.take_succ_eq_append_getElem hlt
      have hvs := hs L[k] (List.getElem_mem hlt)
      have HP : Hid (M.chk L[k] ≠ 0 → M.put L = ([], M.chk L[k])) := by
        intro hne
        have e : M.errOf L = M.chk L[k] := by
          conv => lhs; rw [← List.take_append_drop k L, M.errOf_append _ _ herr, List.drop_eq_getElem_cons hlt]
          simp only [M.errOf, if_neg hne]
        unfold M.put
        rw [e, if_neg hne]
      have HO : Hid (M.chk L[k] = 0 → M.errOf (L.take k ++ [L[k]]) = 0) := fun h0 => by rw [M.errOf_snoc _ _ herr]; exact h0
      have hlen : (M.bs (M.keyOf (L.take k))).size ≤ 20000 := by
        have := M.keyOf_length (L.take k) herr
        have := List.length_take_le k L
        rw [M.bs_size]; omega
      clear r0 row0 hs
      generalize L[k] = v at *
      obtain ⟨t, n, f⟩ := v
      simp only at hvs
      have hc := fun W => refOne_any (M.bs t) n f W (by rw [M.bs_size]; unfold maxLen; omega)
      unfold RefOne at hc
      rw [M.bs_data] at hc
      clear herr
      by_cases h0 : M.chk (t, n, f) = 0
      · rw [oneP_good _ h0] at hc
        have H43 : (M.bs (M.one (t, n, f))).size ≤ 43 := by rw [M.bs_size]; exact M.one_length (t, n, f) h0
        have HK : Hid (M.keyOf (L.take (k + 1)) = M.keyOf (L.take k) ++ M.one (t, n, f)) := by show _ = _; rw [HL.out, M.keyOf_snoc]
        have HE : Hid (M.errOf (L.take (k + 1)) = 0) := by show _ = _; rw [HL.out]; exact HO.out h0
        clear h0
        generalize M.keyOf (L.take k) = K at *
        generalize M.one (t, n, f) = O at *
        go_wp2_with fail
        refine (hc _).mono ?_
        rintro e w1 ⟨rfl, b1⟩
        go_wp2_with fail
        go_roundw
        case rel => exact ⟨k + 1, by omega, by go_num, by rw [HK.out, M.bs_append], HE.out, hb.tr b1⟩
        case measure => simp [intOf]; omega
      · rw [oneP_bad _ _ rfl h0] at hc
        have HP2 : Hid (M.put L = ([], M.chk (t, n, f))) := HP.out h0
        have h6 := M.chk_le (t, n, f)
        generalize M.chk (t, n, f) = E at *
        have q : ((E : Int) != 0) = true := by rw [bne_iff_ne]; omega
        go_wp2_with fail
        refine (hc _).mono ?_
        rintro e w1 ⟨rfl, b1⟩
        go_wp2_with fail
        go_ret2
        exact ⟨by rw [HP2.out]; rfl, hb.tr b1⟩
    · have HF : Hid (M.put L = (M.keyOf (L.take k), 0)) := by
        show _ = _
        rw [List.take_of_length_le (by omega)] at herr ⊢
        unfold M.put; rw [if_pos herr]
      clear herr
      go_wp2_with fail
      go_ret2
      exact ⟨by rw [HF.out]; rfl, hb⟩
end Go.Proofs.Ytfiopegkopfceaa
