/-
  The law PatchBack, walked.
-/
import Derived.Test.YtnfbpfejogkcnaaQ
namespace Go.Proofs.Ytnfbpfejogkcnaa
open Go.RowKit

theorem back_long (a b : List UInt8) (w : World) (h : 1000 < a.length ∨ (a.length ≤ 1000 ∧ a.length ≠ b.length)) :
    Calls Try.prog 7 #[.string (M.bs a), .string (M.bs b)] w fun e w' => e = .returned (.bool true) ∧ Bel w w' := by
  have za : (M.bs a).size = a.length := M.bs_size a
  have zb : (M.bs b).size = b.length := M.bs_size b
  rcases h with h | ⟨h, h2⟩
  · go_enter Try.func7, Try.ntmps7
    go_wp2_with fail
    refine (speaks_any _).mono ?_
    rintro e w1 ⟨rfl, b1⟩
    go_wp2_with fail
    go_ret
    exact ⟨rfl, b1⟩
  · have q : (((a.length : Nat) : Int) != (b.length : Int)) = true := by rw [bne_iff_ne]; omega
    clear h2
    go_enter Try.func7, Try.ntmps7
    go_wp2_with fail
    refine (speaks_any _).mono ?_
    rintro e w1 ⟨rfl, b1⟩
    go_wp2_with fail
    go_ret
    exact ⟨rfl, b1⟩

theorem diff_small (a b : List UInt8) (n : Nat) (hb : b.length ≤ n) : ∀ p ∈ M.diff a b, p.2.length ≤ n := by
  intro p hp
  unfold M.diff at hp
  split at hp
  · obtain ⟨q, _, rfl⟩ := List.mem_map.1 hp
    simp only [M.pc, List.length_take, List.length_drop]; omega
  · simp at hp

set_option maxHeartbeats 2000000 in
theorem back_eq (a : List UInt8) (w : World) (h : a.length ≤ 1000) :
    Calls Try.prog 7 #[.string (M.bs a), .string (M.bs a)] w fun e w' => e = .returned (.bool true) ∧ Bel w w' := by
  have za : (M.bs a).size = a.length := M.bs_size a
  have H1 := fun W => diff_any a a W (by omega) (by omega)
  rw [M.diff_self] at H1
  have H2 := fun x W hv => apply_any a [] x W hv (by decide) (by simp) (by omega)
  rw [M.apply_none] at H2
  have q0 : (((a.length : Nat) : Int) != (a.length : Int)) = false := by simp
  have q1 : ((M.bs a).toList != (M.bs a).toList) = false := by simp
  have q2 : ((M.bs a).toList == (M.bs a).toList) = true := by simp
  go_enter Try.func7, Try.ntmps7
  go_wp2_with fail
  refine (speaks_any _).mono ?_
  rintro e w1 ⟨rfl, b1⟩
  go_wp2_with fail
  refine (H1 _).mono ?_
  rintro e w2 ⟨v, rfl, o2, b2⟩
  obtain ⟨ao, cap, rfl, _⟩ := id o2.vals
  go_wp2_with fail
  refine (H1 _).mono ?_
  rintro e w3 ⟨v, rfl, o3, b3⟩
  obtain ⟨ao2, cap2, rfl, _⟩ := id o3.vals
  go_wp2_with fail
  refine (H2 _ _ o3.vals).mono ?_
  rintro e w4 ⟨rfl, b4⟩
  simp only
  clear o2 o3 H1 H2
  go_wp2_with fail
  refine wp_loop_rounds 1 ?_
  rw [rounds_succ]
  go_wp2_with fail
  go_ret
  exact ⟨rfl, ((b1.tr b2).tr b3).tr b4⟩

set_option maxHeartbeats 4000000 in
theorem back_ne (a b : List UInt8) (w : World) (h : b.length ≤ 1000) (hl : a.length = b.length) (hne : a ≠ b) :
    Calls Try.prog 7 #[.string (M.bs a), .string (M.bs b)] w fun e w' => e = .returned (.bool true) ∧ Bel w w' := by
  have za : (M.bs a).size = b.length := by rw [M.bs_size, hl]
  have zb : (M.bs b).size = b.length := M.bs_size b
  obtain ⟨h1, h2, h3⟩ := M.diff_back a b hl (by omega)
  have h0 : 0 < (M.diff a b).length := by
    have : (M.diff a b).length ≠ 0 := fun e => hne (h2.1 (List.length_eq_zero_iff.1 e))
    omega
  have hbd := (M.diff_length a b).1
  have H1 := fun W => diff_any a b W (by omega) (by omega)
  have H1' := fun W => diff_any b a W (by omega) (by omega)
  have H2 := fun x W hv => apply_any b (M.diff b a) x W hv (by omega) (diff_small b a 100000 (by omega)) (by omega)
  rw [M.apply_diff b a hl.symm (by omega)] at H2
  clear h2
  generalize M.diff a b = L at *
  generalize M.diff b a = K at *
  have q0 : (((L.length : Nat) : Int) != (K.length : Int)) = false := by rw [bne_eq_false_iff_eq]; omega
  have q1 : ((M.bs a).toList != (M.bs a).toList) = false := by simp
  have q2 : ((M.bs a).toList == (M.bs b).toList) = false := by rw [M.bs_toList, M.bs_toList, beq_eq_false_iff_ne]; exact hne
  have q2' : ¬ (M.bs a).toList = (M.bs b).toList := by rw [M.bs_toList, M.bs_toList]; exact hne
  have q3 : (((L.length : Nat) : Int) == 0) = false := by rw [beq_eq_false_iff_ne]; omega
  have q3' : ¬ ((L.length : Nat) : Int) = 0 := by omega
  have HK := hid h1
  clear hne h1 hl
  go_enter Try.func7, Try.ntmps7
  go_wp2_with fail
  refine (speaks_any _).mono ?_
  rintro e w1 ⟨rfl, b1⟩
  go_wp2_with fail
  refine (H1 _).mono ?_
  rintro e w2 ⟨v, rfl, o2, b2⟩
  have hv2 := o2.vals
  obtain ⟨ao, cap, rfl, hr0⟩ := id hv2
  obtain ⟨g, off, rfl, hr⟩ := hr0.resolve_left (fun e => by rw [e] at h0; simp at h0)
  go_wp2_with fail
  refine (H1' _).mono ?_
  rintro e w3 ⟨v, rfl, o3, b3⟩
  have hv3 := hid o3.vals
  obtain ⟨ao2, cap2, rfl, hs0⟩ := id hv3.out
  obtain ⟨g2, off2, rfl, hs⟩ := hs0.resolve_left (fun e => by have := HK.out; rw [e] at this; simp at this; rw [this] at h0; simp at h0)
  have hg := hr.lt h0
  have hr3 := hid (hr.below b3 hg)
  clear hr hr0 hs0 hv2
  go_wp2_with fail
  refine (H2 _ _ hv3.out).mono ?_
  rintro e w4 ⟨rfl, b4⟩
  have hL4 := hid (hr3.out.below b4 (by have := b3.size; omega))
  have hK4 := hid (hs.below b4 (hs.lt (by have := HK.out; omega)))
  have hg4 : g < w4.heap.size := by have := b3.size; have := b4.size; omega
  have hg5 : g2 < w4.heap.size := by have := b4.size; have := hs.lt (by have := HK.out; omega); omega
  have HB := hid (((b1.tr b2).tr b3).tr b4)
  clear o2 o3 H1 H2 H1' hs
  go_wp2_with fail
  go_loopw [9] (fun i wr => ∃ k : Nat, k ≤ L.length ∧ i = .int .i64 k ∧ Bel w4 wr) (fun i _ => L.length - (intOf i).toNat)
  case atStart => exact ⟨0, Nat.zero_le _, rfl, Below.refl _ _⟩
  case round =>
    obtain ⟨k, hk, rfl, hb⟩ := hrel
    by_cases hlt : k < L.length
    · have hltK : k < K.length := by have := HK.out; omega
      obtain ⟨d1, d2⟩ := (hL4.out.below hb hg4) k hlt
      obtain ⟨e1, e2⟩ := (hK4.out.below hb hg5) k hltK
      obtain ⟨r1, r2, r3⟩ := h3 k hlt hltK
      clear h3
      generalize L[k] = p at *
      generalize K[k] = q at *
      obtain ⟨m, t⟩ := p
      obtain ⟨n, u⟩ := q
      simp only at d1 d2 e1 e2 r1 r2 r3
      subst r1
      have p0 : (m != m) = false := by simp
      have zt : (M.bs t).size = t.length := M.bs_size t
      have zu : (M.bs u).size = t.length := by rw [M.bs_size, r2]
      have p1 : (((t.length : Nat) : Int) != (t.length : Int)) = false := by simp
      have p2 : ((M.bs t).toList == (M.bs u).toList) = false := by rw [M.bs_toList, M.bs_toList, beq_eq_false_iff_ne]; exact r3
      have p3 : ¬ (M.bs t).toList = (M.bs u).toList := by rw [M.bs_toList, M.bs_toList]; exact r3
      clear r2 r3
      go_wp2_with fail
      go_quiet (fail)
      have b0 : Bel wr (wr.drewN nq) := below_drewN (Below.refl _ _) _
      generalize wr.drewN nq = W1 at b0 ⊢
      go_wp2_with fail
      go_roundw
      case rel => exact ⟨k + 1, by omega, by go_num, hb.tr b0⟩
      case measure => simp [intOf]; omega
    · go_wp2_with fail
      go_ret
      exact ⟨rfl, HB.out.tr hb⟩
theorem back_any (a b : ByteArray) (w : World) (_ha : a.size ≤ maxLen) (_hb : b.size ≤ maxLen) :
    Calls Try.prog 7 #[.string a, .string b] w fun e w' => e = .returned (.bool true) ∧ Bel w w' := by
  rw [← M.bs_of a, ← M.bs_of b]
  generalize a.data.toList = a
  generalize b.data.toList = b
  by_cases h : 1000 < a.length ∨ (a.length ≤ 1000 ∧ a.length ≠ b.length)
  · exact back_long a b w h
  · by_cases he : a = b
    · subst he; exact back_eq a w (by omega)
    · exact back_ne a b w (by omega) (by omega) he
end Go.Proofs.Ytnfbpfejogkcnaa
