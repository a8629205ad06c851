/-
  The law KeysAfter: its mathematics, and its walk.
-/
import Derived.Test.YtfiopegkopfceaaKA
namespace Go.Proofs.Ytfiopegkopfceaa
open Go.RowKit
open Go.Lib (compareBytes)

theorem lt_succ_byte {c : UInt8} (h : c ≠ 255) : c < c + 1 ∧ (c + 1).toNat = c.toNat + 1 := by
  have h1 : c.toNat ≠ 255 := fun e => h (UInt8.toNat_inj.1 (by rw [e]; rfl))
  have h2 := c.toNat_lt
  have h3 : (c + 1).toNat = c.toNat + 1 := by
    rw [UInt8.toNat_add]; show (c.toNat + 1) % 256 = _; omega
  exact ⟨UInt8.lt_iff_toNat_lt.2 (by omega), h3⟩
theorem cmp_before (c : UInt8) (hc : c ≠ 255) (r : List UInt8) : ∀ p : List UInt8, compareBytes (p ++ c :: r) (p ++ [c + 1]) = -1
  | [] => by simp [compareBytes, (lt_succ_byte hc).1]
  | e :: p => by
    simp only [List.cons_append, compareBytes, UInt8.lt_irrefl, if_false]
    exact cmp_before c hc r p
theorem all_prefix : ∀ (q t : List UInt8), (∀ c ∈ q, c = 255) → 0 ≤ compareBytes t q → ∃ r, t = q ++ r
  | [], t, _, _ => ⟨t, rfl⟩
  | c :: q, [], _, h => by simp [compareBytes] at h
  | c :: q, d :: t, hq, h => by
    have hc : c = 255 := hq c (by simp)
    subst hc
    have hd := d.toNat_lt
    simp only [compareBytes] at h
    split at h
    · simp at h
    · rename_i h1
      have h2 : d = 255 := by
        apply UInt8.toNat_inj.1
        rw [UInt8.lt_iff_toNat_lt] at h1
        have : (255 : UInt8).toNat = 255 := rfl
        omega
      subst h2
      rw [if_neg (UInt8.lt_irrefl _)] at h
      obtain ⟨r, hr⟩ := all_prefix q t (fun c hc => hq c (by simp [hc])) h
      exact ⟨r, by rw [hr]; rfl⟩
theorem cmp_nil (t : List UInt8) : 0 ≤ compareBytes t [] := by cases t <;> simp [compareBytes]
theorem cmp_after (c : UInt8) (hc : c ≠ 255) (q : List UInt8) (hq : ∀ c ∈ q, c = 255) : ∀ (p t : List UInt8), (¬ ∃ r, t = (p ++ c :: q) ++ r) → 0 ≤ compareBytes t (p ++ c :: q) → 0 ≤ compareBytes t (p ++ [c + 1])
  | [], [], _, h => by simp [compareBytes] at h
  | [], d :: t, hn, h => by
    obtain ⟨l1, l2⟩ := lt_succ_byte hc
    simp only [List.nil_append, compareBytes] at h ⊢
    split at h
    · simp at h
    · rename_i h1
      split at h
      · rename_i h2
        rw [UInt8.lt_iff_toNat_lt] at h2
        rw [if_neg (by rw [UInt8.lt_iff_toNat_lt, l2]; omega)]
        split
        · decide
        · exact cmp_nil t
      · rename_i h2
        rw [UInt8.lt_iff_toNat_lt] at h1 h2
        have hd : d = c := UInt8.toNat_inj.1 (by omega)
        subst hd
        obtain ⟨r, hr⟩ := all_prefix q t hq h
        exact absurd ⟨r, by rw [hr]; rfl⟩ hn
  | e :: p, [], _, h => by simp [compareBytes] at h
  | e :: p, d :: t, hn, h => by
    simp only [List.cons_append, compareBytes] at h ⊢
    split at h
    · simp at h
    · rename_i h1
      rw [if_neg h1]
      split at h
      · rename_i h2; rw [if_pos h2]; decide
      · rename_i h2
        rw [if_neg h2]
        rw [UInt8.lt_iff_toNat_lt] at h1 h2
        have hd : d = e := UInt8.toNat_inj.1 (by omega)
        subst hd
        exact cmp_after c hc q hq p t (fun ⟨r, hr⟩ => hn ⟨r, by rw [hr]; rfl⟩) h

theorem after_long (s t : ByteArray) (w : World) (h : 100 < s.size ∨ (s.size ≤ 100 ∧ 200 < t.size)) (hs : s.size ≤ maxLen) (ht : t.size ≤ maxLen) :
    Calls Try.prog 6 #[.string s, .string t] w fun e w' => e = .returned (.bool true) ∧ Bel w w' := by
  unfold maxLen at hs ht
  rcases h with h | ⟨h, h'⟩
  all_goals
    go_enter Try.func6, Try.ntmps6
    go_wp2_with fail
    refine (speaks_any _).mono ?_
    rintro e w1 ⟨rfl, b1⟩
    go_wp2_with fail
    go_ret
    exact ⟨rfl, b1⟩

/-- The three ways in which 't' may begin with 's', or not. -/
def Begins (s t : ByteArray) (b : Bool) : Prop :=
  (b = true ∧ s.size ≤ t.size ∧ ((t.extract 0 s.size).toList == s.toList) = true ∧ ∃ r, t.data.toList = s.data.toList ++ r) ∨
  (b = false ∧ ¬ ∃ r, t.data.toList = s.data.toList ++ r)
theorem begins_of (s t : ByteArray) : ∃ b, Begins s t b := by
  have hls := Lib.size_eq s
  have hlt := Lib.size_eq t
  by_cases hbeg : ∃ r, t.data.toList = s.data.toList ++ r
  · refine ⟨true, .inl ⟨rfl, ?_, ?_, hbeg⟩⟩
    · obtain ⟨r, hr⟩ := hbeg
      rw [hls, hlt, hr]; simp
    · obtain ⟨r, hr⟩ := hbeg
      rw [Lib.extract_toList, Lib.toList_data, hr, List.drop_zero, Nat.sub_zero, hls, List.take_left', beq_self_eq_true]; rfl
  · exact ⟨false, .inr ⟨rfl, hbeg⟩⟩
theorem no_begin (s t : ByteArray) (h : ¬ ∃ r, t.data.toList = s.data.toList ++ r) : ((t.extract 0 s.size).toList == s.toList) = false := by
  rw [beq_eq_false_iff_ne]
  intro e
  apply h
  rw [Lib.extract_toList, Lib.toList_data, List.drop_zero, Nat.sub_zero] at e
  exact ⟨t.data.toList.drop s.size, by rw [← e, List.take_append_drop]⟩

theorem ret_true {b : Bool} (h : b = true) : Ending.returned (.bool b) = .returned (.bool true) := by rw [h]
set_option maxHeartbeats 2000000 in
theorem after_begins (s t : ByteArray) (w : World) (hs : s.size ≤ 100) (ht : t.size ≤ 200) (hlen : s.size ≤ t.size) (q : ((t.extract 0 s.size).toList == s.toList) = true) (hbeg : ∃ r, t.data.toList = s.data.toList ++ r) :
    Calls Try.prog 6 #[.string s, .string t] w fun e w' => e = .returned (.bool true) ∧ Bel w w' := by
  have hls : Hid (s.size = s.data.toList.length) := Lib.size_eq s
  have hlt : Hid (t.size = t.data.toList.length) := Lib.size_eq t
  have HB : Hid (∃ r, t.data.toList = s.data.toList ++ r) := hbeg
  clear hbeg
  go_enter Try.func6, Try.ntmps6
  go_wp2_with fail
  refine (speaks_any _).mono ?_
  rintro e w1 ⟨rfl, b1⟩
  go_wp2_with fail
  refine (after_any _ _ (by omega)).mono ?_
  rintro e w2 ⟨x, rfl, hx, b2⟩
  obtain ⟨p, qq, hall, hx⟩ := hx
  have HX : Hid ((s.data.toList = qq ∧ x = []) ∨ ∃ c : UInt8, c ≠ 255 ∧ s.data.toList = p ++ c :: qq ∧ x = p ++ [c + 1]) := hx
  have HQ : Hid (∀ c ∈ qq, c = 255) := hall
  clear hx hall
  by_cases hxe : x = []
  · subst hxe
    have qx : (M.bs []).toList = [] := M.bs_toList []
    have HA : Hid (∀ c ∈ s.data.toList, c = 255) := by
      rcases HX.out with ⟨h, _⟩ | ⟨c, _, _, h⟩
      · show ∀ c ∈ s.data.toList, c = 255
        rw [h]; exact HQ.out
      · simp at h
    go_wp2_with fail
    go_loop [7] (fun n => ∃ k : Nat, k ≤ s.size ∧ n = .int .i64 k) (fun n => s.size - (intOf n).toNat)
    case atStart => exact ⟨0, Nat.zero_le _, rfl⟩
    case round =>
      obtain ⟨k, hk, rfl⟩ := hrel
      by_cases hklt : k < s.size
      · have h255 : s[k] = 255 := HA.out _ (by show s.data.toList[k]'(by rw [← hls.out]; exact hklt) ∈ _; exact List.getElem_mem _)
        have q5 : ((s[k].toNat : Int) != 255) = false := by rw [h255]; rfl
        clear h255
        go_wp2
        go_round
        case rel => exact ⟨k + 1, by omega, by go_num⟩
        case measure => simp [intOf]; omega
      · go_wp2
        go_ret
        exact ⟨rfl, b1.tr b2⟩
  · have qx : (M.bs x).toList.isEmpty = false := by rw [M.bs_toList]; simpa using hxe
    have qx2 : ¬ (M.bs x).toList = [] := by rw [M.bs_toList]; exact hxe
    obtain ⟨c, hc, hsl, hxl⟩ : ∃ c : UInt8, c ≠ 255 ∧ s.data.toList = p ++ c :: qq ∧ x = p ++ [c + 1] := by
      rcases HX.out with ⟨_, h⟩ | h
      · exact absurd h hxe
      · exact h
    have hxz : (M.bs x).size ≤ 1000 := by
      have h1 := hls.out
      rw [hsl] at h1
      rw [M.bs_size, hxl]; simp at h1 ⊢; omega
    have H1 : compareBytes t.data.toList (M.bs x).data.toList = -1 := by
      obtain ⟨r, hr⟩ := HB.out
      rw [M.bs_data, hr, hsl, hxl, List.append_assoc]
      exact cmp_before c hc (qq ++ r) p
    have H2 : compareBytes s.data.toList (M.bs x).data.toList = -1 := by
      rw [M.bs_data, hsl, hxl]; exact cmp_before c hc qq p
    clear hsl hxl hxe hc
    go_wp2_with fail
    refine (bytes_any _ _ _ (by omega) (by omega)).mono ?_
    rintro e w3 ⟨rfl, b3⟩
    rw [H1]
    go_wp2_with fail
    refine (bytes_any _ _ _ (by omega) (by omega)).mono ?_
    rintro e w4 ⟨rfl, b4⟩
    rw [H2]
    go_wp2_with fail
    go_ret
    exact ⟨rfl, ((b1.tr b2).tr b3).tr b4⟩
set_option maxHeartbeats 2000000 in
theorem after_other (s t : ByteArray) (w : World) (hs : s.size ≤ 100) (ht : t.size ≤ 200) (hlen : s.size ≤ t.size) (q : ((t.extract 0 s.size).toList == s.toList) = false) (hbeg : ¬ ∃ r, t.data.toList = s.data.toList ++ r) :
    Calls Try.prog 6 #[.string s, .string t] w fun e w' => e = .returned (.bool true) ∧ Bel w w' := by
  have hls : Hid (s.size = s.data.toList.length) := Lib.size_eq s
  have hlt : Hid (t.size = t.data.toList.length) := Lib.size_eq t
  have HB : Hid (¬ ∃ r, t.data.toList = s.data.toList ++ r) := hbeg
  clear hbeg
  go_enter Try.func6, Try.ntmps6
  go_wp2_with fail
  refine (speaks_any _).mono ?_
  rintro e w1 ⟨rfl, b1⟩
  go_wp2_with fail
  refine (after_any _ _ (by omega)).mono ?_
  rintro e w2 ⟨x, rfl, hx, b2⟩
  obtain ⟨p, qq, hall, hx⟩ := hx
  have HX : Hid ((s.data.toList = qq ∧ x = []) ∨ ∃ c : UInt8, c ≠ 255 ∧ s.data.toList = p ++ c :: qq ∧ x = p ++ [c + 1]) := hx
  have HQ : Hid (∀ c ∈ qq, c = 255) := hall
  clear hx hall
  by_cases hxe : x = []
  · subst hxe
    have qx : (M.bs []).toList = [] := M.bs_toList []
    have HA : Hid (∀ c ∈ s.data.toList, c = 255) := by
      rcases HX.out with ⟨h, _⟩ | ⟨c, _, _, h⟩
      · show ∀ c ∈ s.data.toList, c = 255
        rw [h]; exact HQ.out
      · simp at h
    go_wp2_with fail
    go_loop [7] (fun n => ∃ k : Nat, k ≤ s.size ∧ n = .int .i64 k) (fun n => s.size - (intOf n).toNat)
    case atStart => exact ⟨0, Nat.zero_le _, rfl⟩
    case round =>
      obtain ⟨k, hk, rfl⟩ := hrel
      by_cases hklt : k < s.size
      · have h255 : s[k] = 255 := HA.out _ (by show s.data.toList[k]'(by rw [← hls.out]; exact hklt) ∈ _; exact List.getElem_mem _)
        have q5 : ((s[k].toNat : Int) != 255) = false := by rw [h255]; rfl
        clear h255
        go_wp2
        go_round
        case rel => exact ⟨k + 1, by omega, by go_num⟩
        case measure => simp [intOf]; omega
      · go_wp2
        go_ret
        exact ⟨rfl, b1.tr b2⟩
  · have qx : (M.bs x).toList.isEmpty = false := by rw [M.bs_toList]; simpa using hxe
    have qx2 : ¬ (M.bs x).toList = [] := by rw [M.bs_toList]; exact hxe
    obtain ⟨c, hc, hsl, hxl⟩ : ∃ c : UInt8, c ≠ 255 ∧ s.data.toList = p ++ c :: qq ∧ x = p ++ [c + 1] := by
      rcases HX.out with ⟨_, h⟩ | h
      · exact absurd h hxe
      · exact h
    have hxz : (M.bs x).size ≤ 1000 := by
      have h1 := hls.out
      rw [hsl] at h1
      rw [M.bs_size, hxl]; simp at h1 ⊢; omega
    have H1 : 0 ≤ compareBytes t.data.toList s.data.toList → 0 ≤ compareBytes t.data.toList (M.bs x).data.toList := by
      have hn := HB.out
      rw [M.bs_data, hsl, hxl]
      rw [hsl] at hn
      exact cmp_after c hc qq HQ.out p _ hn
    have hbt := fun W => bytes_any t s W (by omega) (by omega)
    have hbx := fun W => bytes_any t (M.bs x) W (by omega) (by omega)
    clear hsl hxl hxe hc
    generalize compareBytes t.data.toList s.data.toList = C1 at *
    generalize compareBytes t.data.toList (M.bs x).data.toList = C2 at *
    by_cases hc1 : C1 < 0
    · clear H1
      go_wp2_with fail
      refine (hbt _).mono ?_
      rintro e w3 ⟨rfl, b3⟩
      go_wp2_with fail
      go_ret
      exact ⟨rfl, (b1.tr b2).tr b3⟩
    · have hc2 : 0 ≤ C2 := H1 (by omega)
      clear H1
      go_wp2_with fail
      refine (hbt _).mono ?_
      rintro e w3 ⟨rfl, b3⟩
      go_wp2_with fail
      refine (hbx _).mono ?_
      rintro e w4 ⟨rfl, b4⟩
      go_wp2_with fail
      go_ret
      exact ⟨ret_true (by simp), ((b1.tr b2).tr b3).tr b4⟩
set_option maxHeartbeats 2000000 in
theorem after_short (s t : ByteArray) (w : World) (hs : s.size ≤ 100) (ht : t.size ≤ 200) (hlen : t.size < s.size) (hbeg : ¬ ∃ r, t.data.toList = s.data.toList ++ r) :
    Calls Try.prog 6 #[.string s, .string t] w fun e w' => e = .returned (.bool true) ∧ Bel w w' := by
  have hls : Hid (s.size = s.data.toList.length) := Lib.size_eq s
  have hlt : Hid (t.size = t.data.toList.length) := Lib.size_eq t
  have HB : Hid (¬ ∃ r, t.data.toList = s.data.toList ++ r) := hbeg
  clear hbeg
  go_enter Try.func6, Try.ntmps6
  go_wp2_with fail
  refine (speaks_any _).mono ?_
  rintro e w1 ⟨rfl, b1⟩
  go_wp2_with fail
  refine (after_any _ _ (by omega)).mono ?_
  rintro e w2 ⟨x, rfl, hx, b2⟩
  obtain ⟨p, qq, hall, hx⟩ := hx
  have HX : Hid ((s.data.toList = qq ∧ x = []) ∨ ∃ c : UInt8, c ≠ 255 ∧ s.data.toList = p ++ c :: qq ∧ x = p ++ [c + 1]) := hx
  have HQ : Hid (∀ c ∈ qq, c = 255) := hall
  clear hx hall
  by_cases hxe : x = []
  · subst hxe
    have qx : (M.bs []).toList = [] := M.bs_toList []
    have HA : Hid (∀ c ∈ s.data.toList, c = 255) := by
      rcases HX.out with ⟨h, _⟩ | ⟨c, _, _, h⟩
      · show ∀ c ∈ s.data.toList, c = 255
        rw [h]; exact HQ.out
      · simp at h
    go_wp2_with fail
    go_loop [7] (fun n => ∃ k : Nat, k ≤ s.size ∧ n = .int .i64 k) (fun n => s.size - (intOf n).toNat)
    case atStart => exact ⟨0, Nat.zero_le _, rfl⟩
    case round =>
      obtain ⟨k, hk, rfl⟩ := hrel
      by_cases hklt : k < s.size
      · have h255 : s[k] = 255 := HA.out _ (by show s.data.toList[k]'(by rw [← hls.out]; exact hklt) ∈ _; exact List.getElem_mem _)
        have q5 : ((s[k].toNat : Int) != 255) = false := by rw [h255]; rfl
        clear h255
        go_wp2
        go_round
        case rel => exact ⟨k + 1, by omega, by go_num⟩
        case measure => simp [intOf]; omega
      · go_wp2
        go_ret
        exact ⟨rfl, b1.tr b2⟩
  · have qx : (M.bs x).toList.isEmpty = false := by rw [M.bs_toList]; simpa using hxe
    have qx2 : ¬ (M.bs x).toList = [] := by rw [M.bs_toList]; exact hxe
    obtain ⟨c, hc, hsl, hxl⟩ : ∃ c : UInt8, c ≠ 255 ∧ s.data.toList = p ++ c :: qq ∧ x = p ++ [c + 1] := by
      rcases HX.out with ⟨_, h⟩ | h
      · exact absurd h hxe
      · exact h
    have hxz : (M.bs x).size ≤ 1000 := by
      have h1 := hls.out
      rw [hsl] at h1
      rw [M.bs_size, hxl]; simp at h1 ⊢; omega
    have H1 : 0 ≤ compareBytes t.data.toList s.data.toList → 0 ≤ compareBytes t.data.toList (M.bs x).data.toList := by
      have hn := HB.out
      rw [M.bs_data, hsl, hxl]
      rw [hsl] at hn
      exact cmp_after c hc qq HQ.out p _ hn
    have hbt := fun W => bytes_any t s W (by omega) (by omega)
    have hbx := fun W => bytes_any t (M.bs x) W (by omega) (by omega)
    clear hsl hxl hxe hc
    generalize compareBytes t.data.toList s.data.toList = C1 at *
    generalize compareBytes t.data.toList (M.bs x).data.toList = C2 at *
    by_cases hc1 : C1 < 0
    · clear H1
      go_wp2_with fail
      refine (hbt _).mono ?_
      rintro e w3 ⟨rfl, b3⟩
      go_wp2_with fail
      go_ret
      exact ⟨rfl, (b1.tr b2).tr b3⟩
    · have hc2 : 0 ≤ C2 := H1 (by omega)
      clear H1
      go_wp2_with fail
      refine (hbt _).mono ?_
      rintro e w3 ⟨rfl, b3⟩
      go_wp2_with fail
      refine (hbx _).mono ?_
      rintro e w4 ⟨rfl, b4⟩
      go_wp2_with fail
      go_ret
      exact ⟨ret_true (by simp), ((b1.tr b2).tr b3).tr b4⟩
theorem after_law (s t : ByteArray) (w : World) (hs : s.size ≤ maxLen) (ht : t.size ≤ maxLen) :
    Calls Try.prog 6 #[.string s, .string t] w fun e w' => e = .returned (.bool true) ∧ Bel w w' := by
  by_cases h : 100 < s.size ∨ (s.size ≤ 100 ∧ 200 < t.size)
  · exact after_long s t w h hs ht
  · obtain ⟨b, ⟨_, h1, h2, h3⟩ | ⟨_, h3⟩⟩ := begins_of s t
    · exact after_begins s t w (by omega) (by omega) h1 h2 h3
    · by_cases hl : s.size ≤ t.size
      · exact after_other s t w (by omega) (by omega) hl (no_begin s t h3) h3
      · exact after_short s t w (by omega) (by omega) (by omega) h3
end Go.Proofs.Ytfiopegkopfceaa
