/-
  The contracts of page's noughts, Whole, Body, LSN and of its reader, walked.
-/
import Derived.Test.YtaepbmcmggnmpaaDoorB
namespace Go.Proofs.YtaepbmcmggnmpaaDoor
open Go.RowKit
set_option maxRecDepth 100000

theorem sub_bs (s : List UInt8) (a b : Nat) : (M.bs s).extract a b = M.bs ((s.drop a).take (b - a)) := by rw [M.extract_bs, M.bs_data]
def lenOf : Value → Nat
  | .string s => s.size
  | _ => 0
def trimZ (s : List UInt8) : List UInt8 := s.dropWhile (· == 0)
theorem trimZ_nil (s : List UInt8) : (trimZ s = []) ↔ M.noughts s = true := by
  induction s with
  | nil => simp [trimZ, M.noughts]
  | cons c s ih =>
    unfold trimZ M.noughts at *
    by_cases h : c = 0
    · subst h; simpa using ih
    · simp [h]
set_option maxHeartbeats 400000 in
theorem trimByte_any (s : List UInt8) (w : World) (hs : s.length ≤ 100000) :
    Calls Tryd.prog 93 #[.string (M.bs s), .int .u8 0] w fun e w' => e = .returned (.string (M.bs (trimZ s))) ∧ w = w' := by
  obtain ⟨R, hR⟩ : ∃ R, R = trimZ s := ⟨_, rfl⟩
  rw [← hR]
  have HR : Hid (trimZ s = R) := hR.symm
  clear hR
  go_enter Tryd.func93, Tryd.ntmps93
  go_wp2_with fail
  go_loopw [0] (fun sv wr => ∃ rem : List UInt8, sv = .string (M.bs rem) ∧ rem.length ≤ 100000 ∧ trimZ rem = R ∧ w = wr) (fun sv _ => lenOf sv)
  case atStart => exact ⟨s, rfl, hs, HR.out, rfl⟩
  case round =>
    obtain ⟨rem, rfl, hl, ht, rfl⟩ := hrel
    match rem with
    | [] =>
      have z : (M.bs []).size = 0 := rfl
      have HF : Hid (R = []) := ht.symm
      clear ht
      go_wp2_with fail
      go_ret
      exact ⟨by rw [HF.out]; rfl, rfl⟩
    | c :: r =>
      have z : (M.bs (c :: r)).size = r.length + 1 := M.bs_size _
      have h0 : 0 < (M.bs (c :: r)).size := by omega
      have hg : (M.bs (c :: r))[0] = c := rfl
      simp only [List.length_cons] at hl
      by_cases hc : c = 0
      · subst hc
        have q : (((M.bs (0 :: r))[0].toNat : Int) == 0) = true := rfl
        have hx : Hid ((M.bs (0 :: r)).extract 1 (r.length + 1) = M.bs r) := by show _ = _; rw [sub_bs]; simp
        have HF : Hid (trimZ r = R) := ht
        clear ht hg
        go_wp2_with fail
        go_roundw
        case rel => exact ⟨r, by rw [hx.out], by omega, HF.out, by trivial⟩
        case measure => simp only [lenOf]; rw [hx.out, M.bs_size, z]; omega
      · have q : (((M.bs (c :: r))[0].toNat : Int) == 0) = false := by
          rw [beq_eq_false_iff_ne, hg]
          intro e
          apply hc
          apply UInt8.toNat_inj.1
          have : c.toNat = 0 := by omega
          rw [this]; rfl
        have HF : Hid (R = c :: r) := by show _ = _; rw [← ht]; simp [trimZ, hc]
        clear ht hg
        go_wp2_with fail
        go_ret
        exact ⟨by rw [HF.out]; rfl, rfl⟩
set_option maxRecDepth 100000 in
set_option maxHeartbeats 1000000 in
theorem noughts_any (s : List UInt8) (w : World) (hs : s.length ≤ 100000) :
    Calls Tryd.prog 45 #[.string (M.bs s)] w fun e w' => e = .returned (.bool (M.noughts s)) ∧ w = w' := by
  have HT : ∀ W, Calls Tryd.prog 73 #[.string (M.bs s), .string ⟨#[0]⟩] W fun e w' => e = .returned (.string (M.bs (trimZ s))) ∧ W = w' := by
    intro W
    by_cases h0 : s = []
    · subst h0
      have q : (M.bs []).toList = [] := M.bs_toList []
      go_enter Tryd.func73, Tryd.ntmps73
      go_wp2_with fail
      go_ret
      exact ⟨rfl, rfl⟩
    · have q1 : (M.bs s).toList.isEmpty = false := by rw [M.bs_toList]; simpa using h0
      have q2 : ¬ (M.bs s).toList = [] := by rw [M.bs_toList]; exact h0
      have H := fun W => trimByte_any s W hs
      go_enter Tryd.func73, Tryd.ntmps73
      go_wp2_with fail
      refine (H _).mono ?_
      rintro e w1 ⟨rfl, rfl⟩
      go_wp2_with fail
      go_ret
      exact ⟨rfl, rfl⟩
  have hz := trimZ_nil s
  by_cases hn : M.noughts s = true
  · rw [hn]
    have q : (M.bs (trimZ s)).toList = [] := by rw [M.bs_toList]; exact hz.2 hn
    go_enter Tryd.func45, Tryd.ntmps45
    go_wp2_with fail
    refine (HT _).mono ?_
    rintro e w1 ⟨rfl, rfl⟩
    go_wp2_with fail
    go_ret
    exact ⟨rfl, rfl⟩
  · have q1 : (M.bs (trimZ s)).toList.isEmpty = false := by rw [M.bs_toList]; simpa using fun e => hn (hz.1 e)
    have q2 : ¬ (M.bs (trimZ s)).toList = [] := by rw [M.bs_toList]; exact fun e => hn (hz.1 e)
    rw [Bool.not_eq_true] at hn
    rw [hn]
    go_enter Tryd.func45, Tryd.ntmps45
    go_wp2_with fail
    refine (HT _).mono ?_
    rintro e w1 ⟨rfl, rfl⟩
    go_wp2_with fail
    go_ret
    exact ⟨rfl, rfl⟩
theorem body_any (s : List UInt8) (w : World) : Calls Tryd.prog 22 #[.string (M.bs s)] w fun e w' => e = .returned (.string (M.bs (M.bodyL s))) ∧ w = w' := by
  have z : (M.bs s).size = s.length := M.bs_size s
  by_cases h : s.length = 512
  · have q : (((s.length : Nat) : Int) != 512) = false := by rw [bne_eq_false_iff_eq]; omega
    have hx : Hid ((M.bs s).extract 6 502 = M.bs (M.bodyL s)) := by show _ = _; rw [sub_bs]; unfold M.bodyL; rw [if_pos h]
    go_enter Tryd.func22, Tryd.ntmps22
    go_wp2_with fail
    go_ret
    exact ⟨by rw [← hx.out]; rfl, rfl⟩
  · have q : (((s.length : Nat) : Int) != 512) = true := by rw [bne_iff_ne]; omega
    have hx : Hid (M.bodyL s = []) := by show _ = _; unfold M.bodyL; rw [if_neg h]
    go_enter Tryd.func22, Tryd.ntmps22
    go_wp2_with fail
    go_ret
    exact ⟨by rw [hx.out]; rfl, rfl⟩
theorem lsn_any (s : List UInt8) (w : World) : Calls Tryd.prog 20 #[.string (M.bs s)] w fun e w' => e = .returned (.int .i64 (M.lsnL s : Int)) ∧ w = w' := by
  have z : (M.bs s).size = s.length := M.bs_size s
  by_cases h : s.length = 512
  · have q : (((s.length : Nat) : Int) != 512) = false := by rw [bne_eq_false_iff_eq]; omega
    have hx : (M.bs s).extract 0 6 = M.bs (s.take 6) := by rw [sub_bs, List.drop_zero]
    have HE : Hid (M.lsnL s = M.get (s.take 6)) := by show _ = _; unfold M.lsnL; rw [if_pos h]
    have H := fun W => get_any (M.bs (s.take 6)) W (by rw [M.bs_size, List.length_take]; unfold maxLen; omega)
    rw [M.bs_data] at H
    generalize M.bs (s.take 6) = S at *
    go_enter Tryd.func20, Tryd.ntmps20
    go_wp2_with fail
    refine (H _).mono ?_
    rintro e w1 ⟨rfl, rfl⟩
    go_wp2_with fail
    go_ret
    exact ⟨by rw [HE.out]; rfl, rfl⟩
  · have q : (((s.length : Nat) : Int) != 512) = true := by rw [bne_iff_ne]; omega
    have hx : Hid (M.lsnL s = 0) := by show _ = _; unfold M.lsnL; rw [if_neg h]
    go_enter Tryd.func20, Tryd.ntmps20
    go_wp2_with fail
    go_ret
    exact ⟨by rw [hx.out]; rfl, rfl⟩
set_option maxHeartbeats 1000000 in
theorem whole_any (s : List UInt8) (w : World) (hT : Tab w) (hs : s.length ≤ 100000) :
    Calls Tryd.prog 19 #[.string (M.bs s)] w fun e w' => e = .returned (.bool (M.whole s)) ∧ Bel w w' := by
  have z : (M.bs s).size = s.length := M.bs_size s
  by_cases h : s.length = 512
  · have q : (((s.length : Nat) : Int) != 512) = false := by rw [bne_eq_false_iff_eq]; omega
    have Hn := fun W => noughts_any s W hs
    by_cases hn : M.noughts s = true
    · have HE : Hid (M.whole s = true) := by show _ = _; unfold M.whole; rw [hn]; simp [h]
      rw [hn] at Hn
      go_enter Tryd.func19, Tryd.ntmps19
      go_wp2_with fail
      refine (Hn _).mono ?_
      rintro e w1 ⟨rfl, rfl⟩
      go_wp2_with fail
      go_ret
      exact ⟨by rw [HE.out]; rfl, Below.refl _ _⟩
    · rw [Bool.not_eq_true] at hn
      rw [hn] at Hn
      have HE : Hid (M.whole s = (M.good s && (s.take 6 == (s.drop 502).take 6))) := by show _ = _; unfold M.whole; rw [hn]; simp [h]
      have Ho := fun W hT => open_any (M.bs s) W (by rw [M.bs_size]; unfold maxLen; omega) hT
      rw [M.bs_data] at Ho
      have hop : M.openL s = if M.good s = true then (s.take 508, 0) else ([], 5) := by unfold M.openL; rw [if_neg (by omega), h]
      rw [hop] at Ho
      by_cases hg : M.good s = true
      · rw [if_pos hg] at Ho
        rw [Hid, hg, Bool.true_and] at HE
        have hzo : (M.bs (s.take 508)).size = 508 := by rw [M.bs_size, List.length_take]; omega
        have hx1 : (M.bs (s.take 508)).extract 0 6 = M.bs (s.take 6) := by rw [sub_bs, List.drop_zero, List.take_take]; rfl
        have hx2 : (M.bs (s.take 508)).extract 502 508 = M.bs ((s.drop 502).take 6) := by rw [sub_bs, List.drop_take, List.take_take]; rfl
        have hq : ((M.bs (s.take 6)).toList == (M.bs ((s.drop 502).take 6)).toList) = (s.take 6 == (s.drop 502).take 6) := by rw [M.bs_toList, M.bs_toList]
        have HE2 : Hid (M.whole s = (s.take 6 == (s.drop 502).take 6)) := HE
        clear HE hop
        generalize M.bs (s.take 6) = S1 at *
        generalize M.bs ((s.drop 502).take 6) = S2 at *
        generalize M.bs (s.take 508) = SO at *
        generalize (s.take 6 == (s.drop 502).take 6) = B at *
        cases B
        all_goals
          go_enter Tryd.func19, Tryd.ntmps19
          go_wp2_with fail
          refine (Hn _).mono ?_
          rintro e w1 ⟨rfl, rfl⟩
          go_wp2_with fail
          refine (Ho _ hT).mono ?_
          rintro e w2 ⟨rfl, b2⟩
          go_wp2_with fail
          go_quiet (fail)
          have b0 : Bel w2 (w2.drewN nq) := below_drewN (Below.refl _ _) _
          generalize w2.drewN nq = W1 at b0 ⊢
          go_wp2_with fail
          go_ret
          exact ⟨by rw [HE2.out]; rfl, b2.tr b0⟩
      · rw [if_neg hg] at Ho
        rw [Bool.not_eq_true] at hg
        rw [Hid, hg, Bool.false_and] at HE
        have HE2 : Hid (M.whole s = false) := HE
        clear HE hop
        go_enter Tryd.func19, Tryd.ntmps19
        go_wp2_with fail
        refine (Hn _).mono ?_
        rintro e w1 ⟨rfl, rfl⟩
        go_wp2_with fail
        refine (Ho _ hT).mono ?_
        rintro e w2 ⟨rfl, b2⟩
        go_wp2_with fail
        go_quiet (fail)
        have b0 : Bel w2 (w2.drewN nq) := below_drewN (Below.refl _ _) _
        generalize w2.drewN nq = W1 at b0 ⊢
        go_wp2_with fail
        go_ret
        exact ⟨by rw [HE2.out]; rfl, b2.tr b0⟩
  · have q : (((s.length : Nat) : Int) != 512) = true := by rw [bne_iff_ne]; omega
    have hx : Hid (M.whole s = false) := by show _ = _; unfold M.whole; simp [h]
    go_enter Tryd.func19, Tryd.ntmps19
    go_wp2_with fail
    go_ret
    exact ⟨by rw [hx.out]; rfl, Below.refl _ _⟩
end Go.Proofs.YtaepbmcmggnmpaaDoor
