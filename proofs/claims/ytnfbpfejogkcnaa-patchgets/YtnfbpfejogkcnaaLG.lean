/-
  The law PatchGets, walked.
-/
import Derived.Test.YtnfbpfejogkcnaaK
import Derived.Test.YtnfbpfejogkcnaaF
namespace Go.Proofs.Ytnfbpfejogkcnaa
open Go.RowKit

theorem flat_ge (L : List M.Pc) (h : ∀ p ∈ L, 0 ≤ p.1 ∧ p.1 ≤ 65535 ∧ p.2.length ≤ 65535) : L.length ≤ (L.flatMap M.one).length ∧ ∀ p ∈ L, p.2.length ≤ (L.flatMap M.one).length := by
  induction L with
  | nil => simp
  | cons p L ih =>
    obtain ⟨h1, h2, h3⟩ := h p (by simp)
    obtain ⟨i1, i2⟩ := ih (fun q hq => h q (by simp [hq]))
    have h4 := M.one_length p h1 h2 h3
    simp only [List.flatMap_cons, List.length_append, List.length_cons, h4]
    refine ⟨by omega, fun q hq => ?_⟩
    rcases List.mem_cons.1 hq with rfl | hq
    · omega
    · have := i2 q hq; omega
theorem getP_err (s : List UInt8) : ((M.getP s).2.2 = 0 ∨ (M.getP s).2.2 = 2 ∨ (M.getP s).2.2 = 3) ∧ ((M.getP s).2.2 = 0 ∨ (M.getP s).1 = []) := by
  unfold M.getP
  split
  · exact ⟨.inr (.inr rfl), .inr rfl⟩
  · split
    · exact ⟨.inr (.inr rfl), .inr rfl⟩
    · split
      · exact ⟨.inl rfl, .inl rfl⟩
      · exact ⟨.inr (.inl rfl), .inr rfl⟩
theorem getP_small (s : List UInt8) : (M.getP s).1.length ≤ s.length ∧ ∀ p ∈ (M.getP s).1, p.2.length ≤ s.length := by
  by_cases h0 : (M.getP s).2.2 = 0
  · obtain ⟨h1, h2, h3, h4⟩ := M.putP_getP s (M.getP s).1 (M.getP s).2.1 (by rw [← h0])
    have ha := M.right_all h3
    obtain ⟨g1, g2⟩ := flat_ge (M.getP s).1 (fun p hp => ⟨(ha p hp).1, (ha p hp).2.1, (ha p hp).2.2.2⟩)
    have hl := congrArg List.length h1
    unfold M.putP at hl
    rw [if_pos ⟨h3, h4⟩, List.length_append, List.length_take] at hl
    exact ⟨by omega, fun p hp => by have := g2 p hp; omega⟩
  · have e : (M.getP s).1 = [] := (getP_err s).2.resolve_left h0
    rw [e]; simp

/-- 'same' of a list and the same list: it only reads. -/
theorem sameQ_some (L : List M.Pc) (b0 o0 c0 b1 o1 c1 : Nat) (w : World) (hx : Row2 w b0 o0 L) (hy : Row2 w b1 o1 L) (_hL2 : L.length ≤ 100000) :
    Calls Try.prog 10 #[.slice (some ⟨b0, o0, none⟩) L.length c0, .slice (some ⟨b1, o1, none⟩) L.length c1] w fun e w' => e = .returned (.bool true) ∧ ∃ m, w' = w.drewN m := by
  have q0 : (((L.length : Nat) : Int) != (L.length : Int)) = false := by simp
  have k1 := guard50
  have k2 := neq50
  go_enter Try.func10, Try.ntmps10
  go_wp2_with fail
  go_loopw [5] (fun i wr => ∃ k : Nat, k ≤ L.length ∧ i = .int .i64 k ∧ ∃ m, wr = w.drewN m) (fun i _ => L.length - (intOf i).toNat)
  case atStart => exact ⟨0, Nat.zero_le _, rfl, 0, rfl⟩
  case round =>
    obtain ⟨k, hk, rfl, m, rfl⟩ := hrel
    by_cases hlt : k < L.length
    · obtain ⟨d1, d2⟩ := hx k hlt
      obtain ⟨e1, e2⟩ := hy k hlt
      have HQ := pc_beq L[k] L[k]
      rw [decide_eq_true rfl] at HQ
      clear hx hy
      generalize L[k] = p at *
      obtain ⟨m', t⟩ := p
      simp only at d1 d2 e1 e2 HQ
      go_wp2_with fail
      go_quiet (fail)
      go_wp2_with fail
      go_roundw
      case rel => exact ⟨k + 1, by omega, by go_num, m + nq, rfl⟩
      case measure => simp [intOf]; omega
    · clear hx hy
      go_wp2_with fail
      go_ret
      exact ⟨rfl, m, rfl⟩
theorem sameQ_nil (a b : Option Addr) (c d : Nat) (w : World) : Calls Try.prog 10 #[.slice a 0 c, .slice b 0 d] w fun e w' => e = .returned (.bool true) ∧ ∃ m, w' = w.drewN m := by
  go_enter Try.func10, Try.ntmps10
  go_wp2_with fail
  refine wp_loop_rounds 1 ?_
  rw [rounds_succ]
  go_wp2_with fail
  go_ret
  exact ⟨rfl, 0, rfl⟩
theorem sameQ (L : List M.Pc) (x y : Value) (w : World) (hx : Vals w x L) (hy : Vals w y L) (hL2 : L.length ≤ 100000) :
    Calls Try.prog 10 #[x, y] w fun e w' => e = .returned (.bool true) ∧ ∃ m, w' = w.drewN m := by
  obtain ⟨a, c, rfl, hx⟩ := hx
  obtain ⟨b, d, rfl, hy⟩ := hy
  by_cases h0 : L = []
  · subst h0; exact sameQ_nil a b c d w
  · obtain ⟨b0, o0, rfl, hx'⟩ := hx.resolve_left h0
    obtain ⟨b1, o1, rfl, hy'⟩ := hy.resolve_left h0
    exact sameQ_some L b0 o0 c b1 o1 d w hx' hy' hL2

theorem gets_long (s : List UInt8) (w : World) (h : 1000 < s.length) :
    Calls Try.prog 5 #[.string (M.bs s)] w fun e w' => e = .returned (.bool true) ∧ Bel w w' := by
  have zs : (M.bs s).size = s.length := M.bs_size s
  go_enter Try.func5, Try.ntmps5
  go_wp2_with fail
  refine (speaks_any _).mono ?_
  rintro e w1 ⟨rfl, b1⟩
  go_wp2_with fail
  go_ret
  exact ⟨rfl, b1⟩
set_option maxHeartbeats 4000000 in
theorem gets_short (s : List UInt8) (w : World) (h : s.length ≤ 1000) :
    Calls Try.prog 5 #[.string (M.bs s)] w fun e w' => e = .returned (.bool true) ∧ Bel w w' := by
  have zs : (M.bs s).size = s.length := M.bs_size s
  obtain ⟨g1, g2⟩ := getP_small s
  have H1 := fun W => getP_any s W (by omega)
  have H2 := fun W => rgetP_any s W (by omega)
  have H3 := fun x y W hx hy => same_any (M.getP s).1 (M.getP s).1 x y W hx hy (by omega)
  rw [decide_eq_true rfl] at H3
  have H3Q := fun x y W hx hy => sameQ (M.getP s).1 x y W hx hy (by omega)
  have H4 := fun x W hv => putP_any (M.getP s).1 x W hv (by omega) (fun p hp => by have := g2 p hp; omega)
  have hP : (M.getP s).2.2 = 0 → M.putP (M.getP s).1 = s.take (M.getP s).2.1 ∧ (M.getP s).2.1 ≤ s.length := fun h0 => by
    obtain ⟨h1, h2, _⟩ := M.putP_getP s (M.getP s).1 (M.getP s).2.1 (by rw [← h0])
    exact ⟨h1, h2⟩
  have HP := hid hP
  have hE := (getP_err s).1
  clear hP g1 g2
  generalize (M.getP s).1 = L at *
  generalize (M.getP s).2.1 = n at *
  generalize (M.getP s).2.2 = E at *
  have qn : (((n : Nat) : Int) == (n : Int)) = true := by simp
  have qE : (((E : Nat) : Int) == (E : Int)) = true := by simp
  by_cases h0 : E = 0
  · obtain ⟨hp, hn⟩ := HP.out h0
    subst h0
    clear hE
    have hx : (M.bs s).extract 0 n = M.bs (M.putP L) := by rw [sub_bs, List.drop_zero, Nat.sub_zero, hp]
    clear hp HP
    generalize M.bs (M.putP L) = P at *
    have qP : (P.toList == P.toList) = true := by simp
    have q1 : (n : Int) ≤ (s.length : Int) := by omega
    go_enter Try.func5, Try.ntmps5
    go_wp2_with fail
    refine (speaks_any _).mono ?_
    rintro e w1 ⟨rfl, b1⟩
    go_wp2_with fail
    refine (H1 _).mono ?_
    rintro e w2 ⟨v, rfl, o2, b2⟩
    go_wp2_with fail
    refine (H2 _).mono ?_
    rintro e w3 ⟨v3, rfl, o3, b3⟩
    have hvs : Vals w3.drew v L ∧ Vals w3.drew v3 L := ⟨((o2.bel b3).bel (Bel.dr (Below.refl _ _))).vals, (o3.bel (Bel.dr (Below.refl _ _))).vals⟩
    have hbx := (((b1.tr b2).tr b3)).dr
    clear o2 o3
    go_wp2_with fail
    go_region_held3 (fun w' => Vals w' v L ∧ Vals w' v3 L) (first | assumption | exact hvs)
      (first
        | (go_at_call 10; refine (H3 _ _ _ hvs.1 hvs.2).mono ?_; rintro e w4 ⟨rfl, b4⟩; have hvs := And.intro (hvs.1.bel b4) (hvs.2.bel b4); have hbx := hbx.tr b4)
        | (go_at_call 14; refine (H4 _ _ hvs.1).mono ?_; rintro e w4 ⟨rfl, b4⟩; have hvs := And.intro (hvs.1.bel b4) (hvs.2.bel b4); have hbx := hbx.tr b4))
    go_wp2_with fail
    go_ret
    exact ⟨rfl, hbx⟩
  · have hE2 := hE.resolve_left h0
    clear HP hE h0
    rcases hE2 with rfl | rfl
    all_goals
      go_enter Try.func5, Try.ntmps5
      go_wp2_with fail
      refine (speaks_any _).mono ?_
      rintro e w1 ⟨rfl, b1⟩
      go_wp2_with fail
      refine (H1 _).mono ?_
      rintro e w2 ⟨v, rfl, o2, b2⟩
      go_wp2_with fail
      refine (H2 _).mono ?_
      rintro e w3 ⟨v3, rfl, o3, b3⟩
      have hvs : Vals w3 v L ∧ Vals w3 v3 L := ⟨(o2.bel b3).vals, o3.vals⟩
      clear o2 o3
      go_wp2_with fail
      go_quiet (first
        | (go_at_call 10; refine Calls.quiet_of (H3Q _ _ _ ?_ ?_); exact hvs.1.bel (below_drewN (Below.refl _ _) _); exact hvs.2.bel (below_drewN (Below.refl _ _) _)))
      have hbx : Bel w (w3.drewN nq) := ((b1.tr b2).tr b3).tr (below_drewN (Below.refl _ _) _)
      go_wp2_with fail
      go_ret
      exact ⟨rfl, hbx⟩
theorem gets_any (s : ByteArray) (w : World) (_hs : s.size ≤ maxLen) :
    Calls Try.prog 5 #[.string s] w fun e w' => e = .returned (.bool true) ∧ Bel w w' := by
  rw [← M.bs_of s]
  generalize s.data.toList = s
  by_cases h : 1000 < s.length
  · exact gets_long s w h
  · exact gets_short s w (by omega)
end Go.Proofs.Ytnfbpfejogkcnaa
